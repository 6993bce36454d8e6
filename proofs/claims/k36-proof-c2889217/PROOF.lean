import PyProof.Rows.All
import Wide.All
import OpenK.AllK
import Wide.FinOn
import HandS.ForMost
import HandS.Evl
import HandS.Walk
import HandS.IsInst
import HandS.Deep
import HandS.TupLe
import HandS.Wide
import HandS.WideBits
import HandS.TupAny
import HandS.SortInts
import HandS.RevRange
import HandS.Codes
import HandS.OwnEq
import KE.GoesEnum
import KE.DataMinMax
import HandS.Zip
import HandS.TupSets
import HandS.Defaults
import PySem.Challenge.RW_firerest_k36_back_steps
import PySem.Builtin.Int.W1All
import KE.IntBitsLaws
import KE.RegKIsAll
set_option Elab.async false
set_option linter.all false
set_option maxRecDepth 100000
set_option maxHeartbeats 4000000
/-! Z1: data as trees, how a tree lies in the abstract heap (owned lists, frozen things), and what growing keeps. -/
namespace Z
open PySem L2
open Evl (Ex ex_l ex_t ex_rd)

/-- own: one slot alone holds the list and may change it; fz: nothing changes it; ro: the same, and it may stand in the written part -/
inductive M where
  | own | fz | ro
  deriving DecidableEq
/-- data: m = true: a list (an object) that one slot alone holds and may change -/
inductive D where
  | non | bl (b : Bool) | int (i : Int) | str (x : Str)
  | lst (m : M) (ds : List D)
  | tup (ds : List D)
  | obj (m : Option Addr) (c : Nat) (ks : List Nat) (ds : List D)

structure Tab where
  K : PySem.W.Frag
  cl : Nat → Addr
  nm : List Str

section
variable (T : Tab) (Hf H : Hp)
mutual
/-- the tree d lies at v; the list: the addresses that are owned -/
def rep : D → V → List Addr → Prop
  | .non, v, F => v = .non ∧ F = []
  | .bl b, v, F => v = .bl b ∧ F = []
  | .int i, v, F => v = .int i ∧ F = []
  | .str x, v, F => v = .str x ∧ F = []
  | .lst .own ds, v, F => ∃ a xs G, v = .ref a ∧ F = a :: G ∧ H a = some (.lst xs) ∧ repS ds xs G
  | .lst .fz ds, v, F => ∃ a xs, v = .ref a ∧ F = [] ∧ Rd Hf a (.lst xs) ∧ repS ds xs []
  | .lst .ro ds, v, F => ∃ a xs, v = .ref a ∧ F = [] ∧ SqL T.K Hf a xs ∧ repS ds xs []
  | .tup ds, v, F => ∃ a xs, v = .ref a ∧ F = [] ∧ SqT T.K Hf a xs ∧ repS ds xs []
  | .obj (some a0) c ks ds, v, F => ∃ a dx fs, v = .ref a ∧ F = [a] ∧ (a = a0 ∧ H a = some (.ins (T.cl c) dx fs)) ∧ fs.map (fun p => some p.1) = ks.map (fun k => T.nm[k]?) ∧ repS ds (fs.map (·.2)) []
  | .obj none c ks ds, v, F => ∃ a dx fs, v = .ref a ∧ F = [] ∧ Hf a = some (.ins (T.cl c) dx fs) ∧ fs.map (fun p => some p.1) = ks.map (fun k => T.nm[k]?) ∧ repS ds (fs.map (·.2)) []
def repS : List D → List V → List Addr → Prop
  | [], xs, F => xs = [] ∧ F = []
  | d :: ds, xs, F => ∃ v vs F1 F2, xs = v :: vs ∧ F = F1 ++ F2 ∧ rep d v F1 ∧ repS ds vs F2
end
end

/-- nothing of it is owned -/
def D.fz : D → Bool
  | .lst .own _ => false
  | .obj (some _) _ _ _ => false
  | _ => true
theorem fz_nil {T : Tab} {Hf H : Hp} {d : D} {v : V} {F : List Addr} (h : rep T Hf H d v F) (z : d.fz = true) : F = [] := by
  cases d with
  | lst m ds => cases m with
    | own => cases z
    | fz => obtain ⟨a, xs, _, e, _⟩ := h; exact e
    | ro => obtain ⟨a, xs, _, e, _⟩ := h; exact e
  | obj m c ks ds => cases m with
    | some _ => cases z
    | none => obtain ⟨a, dx, fs, _, e, _⟩ := h; exact e
  | tup ds => obtain ⟨a, xs, _, e, _⟩ := h; exact e
  | _ => exact h.2

section
variable {T : Tab} {Hf H Hf' H' : Hp}
theorem ex_sqL {K : PySem.W.Frag} {a : Addr} {xs : List V} (e : Ex H H') (h : SqL K H a xs) : SqL K H' a xs := ex_l e h
theorem repS_nil {xs : List V} {F : List Addr} : repS T Hf H [] xs F ↔ xs = [] ∧ F = [] := Iff.rfl
mutual
theorem rep_mono (e1 : Ex Hf Hf') : ∀ (d : D) (v : V) (F : List Addr), (∀ a ∈ F, ∀ o, H a = some o → H' a = some o) → rep T Hf H d v F → rep T Hf' H' d v F
  | .non, _, _, _, h => h
  | .bl _, _, _, _, h => h
  | .int _, _, _, _, h => h
  | .str _, _, _, _, h => h
  | .lst .own ds, _, _, k, ⟨a, xs, G, e, f, q, r⟩ => ⟨a, xs, G, e, f, k a (by rw [f]; exact List.mem_cons_self) _ q, repS_mono e1 ds _ _ (fun b hb => k b (by rw [f]; exact List.mem_cons_of_mem _ hb)) r⟩
  | .lst .fz ds, _, _, _, ⟨a, xs, e, f, q, r⟩ => ⟨a, xs, e, f, ex_rd e1 q, repS_mono e1 ds _ _ (fun _ hb => by cases hb) r⟩
  | .lst .ro ds, _, _, _, ⟨a, xs, e, f, q, r⟩ => ⟨a, xs, e, f, ex_l e1 q, repS_mono e1 ds _ _ (fun _ hb => by cases hb) r⟩
  | .tup ds, _, _, _, ⟨a, xs, e, f, q, r⟩ => ⟨a, xs, e, f, ex_t e1 q, repS_mono e1 ds _ _ (fun _ hb => by cases hb) r⟩
  | .obj (some _) c ks ds, _, _, k, ⟨a, dx, fs, e, f, q, n, r⟩ => ⟨a, dx, fs, e, f, ⟨q.1, k a (by rw [f]; exact List.mem_cons_self) _ q.2⟩, n, repS_mono e1 ds _ _ (fun _ hb => by cases hb) r⟩
  | .obj none c ks ds, _, _, _, ⟨a, dx, fs, e, f, q, n, r⟩ => ⟨a, dx, fs, e, f, e1 _ _ q, n, repS_mono e1 ds _ _ (fun _ hb => by cases hb) r⟩
theorem repS_mono (e1 : Ex Hf Hf') : ∀ (ds : List D) (xs : List V) (F : List Addr), (∀ a ∈ F, ∀ o, H a = some o → H' a = some o) → repS T Hf H ds xs F → repS T Hf' H' ds xs F
  | [], _, _, _, h => h
  | d :: ds, _, _, k, ⟨v, vs, F1, F2, e, f, r, q⟩ => ⟨v, vs, F1, F2, e, f, rep_mono e1 d v F1 (fun a ha => k a (by rw [f]; exact List.mem_append_left _ ha)) r, repS_mono e1 ds vs F2 (fun a ha => k a (by rw [f]; exact List.mem_append_right _ ha)) q⟩
end
mutual
/-- what is owned stands -/
theorem rep_dom : ∀ (d : D) (v : V) (F : List Addr), rep T Hf H d v F → ∀ a ∈ F, ∃ o, H a = some o
  | .non, _, _, h, a, ha => by rw [h.2] at ha; cases ha
  | .bl _, _, _, h, a, ha => by rw [h.2] at ha; cases ha
  | .int _, _, _, h, a, ha => by rw [h.2] at ha; cases ha
  | .str _, _, _, h, a, ha => by rw [h.2] at ha; cases ha
  | .lst .own ds, _, _, ⟨b, xs, G, e, f, q, r⟩, a, ha => by
    rw [f] at ha
    rcases List.mem_cons.mp ha with rfl | ha
    · exact ⟨_, q⟩
    · exact repS_dom ds _ _ r a ha
  | .lst .fz ds, _, _, ⟨b, xs, e, f, q, r⟩, a, ha => by rw [f] at ha; cases ha
  | .lst .ro ds, _, _, ⟨b, xs, e, f, q, r⟩, a, ha => by rw [f] at ha; cases ha
  | .tup ds, _, _, ⟨b, xs, e, f, q, r⟩, a, ha => by rw [f] at ha; cases ha
  | .obj (some _) c ks ds, _, _, ⟨b, dx, fs, e, f, q, n, r⟩, a, ha => by
    rw [f] at ha
    rcases List.mem_cons.mp ha with rfl | ha
    · exact ⟨_, q.2⟩
    · cases ha
  | .obj none c ks ds, _, _, ⟨b, dx, fs, e, f, q, n, r⟩, a, ha => by rw [f] at ha; cases ha
theorem repS_dom : ∀ (ds : List D) (xs : List V) (F : List Addr), repS T Hf H ds xs F → ∀ a ∈ F, ∃ o, H a = some o
  | [], _, _, h, a, ha => by rw [h.2] at ha; cases ha
  | d :: ds, _, _, ⟨v, vs, F1, F2, e, f, r, q⟩, a, ha => by
    rw [f] at ha
    rcases List.mem_append.mp ha with ha | ha
    · exact rep_dom d v F1 r a ha
    · exact repS_dom ds vs F2 q a ha
end
theorem repS_len : ∀ {ds : List D} {xs : List V} {F : List Addr}, repS T Hf H ds xs F → xs.length = ds.length
  | [], _, _, h => by rw [h.1]; rfl
  | d :: ds, _, _, ⟨v, vs, F1, F2, e, f, r, q⟩ => by rw [e, List.length_cons, List.length_cons, repS_len q]
theorem repS_append : ∀ {ds es : List D} {xs ys : List V} {F G : List Addr}, repS T Hf H ds xs F → repS T Hf H es ys G → repS T Hf H (ds ++ es) (xs ++ ys) (F ++ G)
  | [], _, _, _, _, _, h, k => by obtain ⟨rfl, rfl⟩ := h; exact k
  | d :: ds, _, _, _, _, _, ⟨v, vs, F1, F2, e, f, r, q⟩, k => by
    subst e; subst f
    exact ⟨v, vs ++ _, F1, F2 ++ _, rfl, by rw [List.append_assoc], r, repS_append q k⟩
theorem repS_get : ∀ {ds : List D} {xs : List V} {F : List Addr} {i : Nat} {d : D}, repS T Hf H ds xs F → ds[i]? = some d → ∃ v G, xs[i]? = some v ∧ rep T Hf H d v G ∧ (∀ a ∈ G, a ∈ F)
  | [], _, _, i, d, _, e => by simp at e
  | d :: ds, _, _, 0, d', ⟨v, vs, F1, F2, e, f, r, q⟩, h => by
    subst e; subst f
    cases (Option.some.inj h : d = d')
    exact ⟨v, F1, rfl, r, fun a ha => List.mem_append_left _ ha⟩
  | d :: ds, _, _, i + 1, d', ⟨v, vs, F1, F2, e, f, r, q⟩, h => by
    subst e; subst f
    obtain ⟨w, G, h1, h2, h3⟩ := repS_get q (i := i) h
    exact ⟨w, G, h1, h2, fun a ha => List.mem_append_right _ (h3 a ha)⟩
/-- all frozen -/
def fzs (ds : List D) : Bool := ds.all D.fz
theorem fzs_nil : ∀ {ds : List D} {xs : List V} {F : List Addr}, repS T Hf H ds xs F → fzs ds = true → F = []
  | [], _, _, h, _ => h.2
  | d :: ds, _, _, ⟨v, vs, F1, F2, e, f, r, q⟩, z => by
    have z1 : d.fz = true ∧ fzs ds = true := by simpa [fzs] using z
    rw [f, fz_nil r z1.1, fzs_nil q z1.2]
    rfl
end
end Z

/-! Z2: growing heaps, the slots of a frame, freezing. -/
namespace Z
open PySem L2
open Evl (Ex ex_l ex_t ex_rd)

structure Gr (Hf H Hf' H' : Hp) : Prop where
  e : Ex H H'
  f : Ex Hf Hf'
  s : Ex Hf' H'
  n : ∀ a o, Hf' a = some o → Hf a = some o ∨ H a = none
theorem Gr.refl {Hf H : Hp} (h : Ex Hf H) : Gr Hf H Hf H := ⟨fun _ _ q => q, fun _ _ q => q, h, fun _ _ q => .inl q⟩
theorem none_back {H H' : Hp} {a : Addr} (e : Ex H H') (h : H' a = none) : H a = none := Evl.fresh_back e h
theorem Gr.trans {Hf H Hf1 H1 Hf2 H2 : Hp} (a : Gr Hf H Hf1 H1) (b : Gr Hf1 H1 Hf2 H2) : Gr Hf H Hf2 H2 :=
  ⟨fun x o q => b.e x o (a.e x o q), fun x o q => b.f x o (a.f x o q), b.s, fun x o q => by
    rcases b.n x o q with h | h
    · exact a.n x o h
    · exact .inr (none_back a.e h)⟩
/-- new addresses: not in H, not frozen in Hf' -/
structure New (H Hf' : Hp) (F : List Addr) : Prop where
  nd : F.Nodup
  h : ∀ a ∈ F, H a = none
  f : ∀ a ∈ F, Hf' a = none
theorem New.nil {H Hf' : Hp} : New H Hf' [] := ⟨List.nodup_nil, (fun _ h => (by cases h)), (fun _ h => (by cases h))⟩
theorem Gr.out {Hf H Hf' H' : Hp} (g : Gr Hf H Hf' H') {a : Addr} {o : HO} (h : H a = some o) (hf : Hf a = none) : Hf' a = none := by
  cases q : Hf' a with
  | none => rfl
  | some u =>
    rcases g.n a u q with z | z
    · rw [hf] at z; cases z
    · rw [h] at z; cases z
/-- what was new stays so -/
theorem New.grow {H Hf1 H1 Hf2 H2 : Hp} {F : List Addr} (n : New H Hf1 F) (g : Gr Hf1 H1 Hf2 H2) (d : ∀ a ∈ F, ∃ o, H1 a = some o) : New H Hf2 F :=
  ⟨n.nd, n.h, fun a ha => let ⟨_, q⟩ := d a ha; g.out q (n.f a ha)⟩
theorem New.append {Hf H Hf1 H1 Hf2 : Hp} {F G : List Addr} (e : Ex H H1) (n : New H Hf2 F) (d : ∀ a ∈ F, ∃ o, H1 a = some o) (m : New H1 Hf2 G) : New H Hf2 (F ++ G) :=
  ⟨List.nodup_append.mpr ⟨n.nd, m.nd, fun a ha b hb z => by
      subst z
      obtain ⟨o, q⟩ := d a ha
      rw [m.h a hb] at q; cases q⟩,
   fun a ha => (List.mem_append.mp ha).elim (n.h a) fun h => none_back e (m.h a h),
   fun a ha => (List.mem_append.mp ha).elim (n.f a) (m.f a)⟩

section
variable (T : Tab) (Hf H : Hp)
def repE : List (Option D) → L2.St → List Addr → Prop
  | [], σ, F => σ = [] ∧ F = []
  | none :: ρ, σ, F => ∃ w τ, σ = w :: τ ∧ repE ρ τ F
  | some d :: ρ, σ, F => ∃ v τ F1 F2, σ = some v :: τ ∧ F = F1 ++ F2 ∧ rep T Hf H d v F1 ∧ repE ρ τ F2
end
section
variable {T : Tab} {Hf H Hf' H' Hf0 H0 : Hp}
theorem repE_mono (e1 : Ex Hf Hf') : ∀ {ρ : List (Option D)} {σ : L2.St} {F : List Addr}, (∀ a ∈ F, ∀ o, H a = some o → H' a = some o) → repE T Hf H ρ σ F → repE T Hf' H' ρ σ F
  | [], _, _, _, h => h
  | none :: _, _, _, k, ⟨w, τ, e, q⟩ => ⟨w, τ, e, repE_mono e1 k q⟩
  | some d :: _, _, _, k, ⟨v, τ, F1, F2, e, f, r, q⟩ => ⟨v, τ, F1, F2, e, f, rep_mono e1 d v F1 (fun a ha => k a (by rw [f]; exact List.mem_append_left _ ha)) r, repE_mono e1 (fun a ha => k a (by rw [f]; exact List.mem_append_right _ ha)) q⟩
theorem repE_dom : ∀ {ρ : List (Option D)} {σ : L2.St} {F : List Addr}, repE T Hf H ρ σ F → ∀ a ∈ F, ∃ o, H a = some o
  | [], _, _, h, a, ha => by rw [h.2] at ha; cases ha
  | none :: _, _, _, ⟨w, τ, e, q⟩, a, ha => repE_dom q a ha
  | some d :: _, _, _, ⟨v, τ, F1, F2, e, f, r, q⟩, a, ha => by
    rw [f] at ha
    rcases List.mem_append.mp ha with ha | ha
    · exact rep_dom d v F1 r a ha
    · exact repE_dom q a ha
theorem repE_len : ∀ {ρ : List (Option D)} {σ : L2.St} {F : List Addr}, repE T Hf H ρ σ F → σ.length = ρ.length
  | [], _, _, h => by rw [h.1]; rfl
  | none :: _, _, _, ⟨w, τ, e, q⟩ => by rw [e, List.length_cons, List.length_cons, repE_len q]
  | some d :: _, _, _, ⟨v, τ, F1, F2, e, f, r, q⟩ => by rw [e, List.length_cons, List.length_cons, repE_len q]
theorem repE_get : ∀ {ρ : List (Option D)} {σ : L2.St} {F : List Addr} {i : Nat} {d : D}, repE T Hf H ρ σ F → ρ[i]? = some (some d) → ∃ v G A C, σ[i]? = some (some v) ∧ rep T Hf H d v G ∧ F = A ++ (G ++ C)
  | [], _, _, i, d, _, h => by simp at h
  | none :: _, _, _, 0, d, _, h => by simp at h
  | some d' :: _, _, _, 0, d, ⟨v, τ, F1, F2, e, f, r, q⟩, h => by
    cases (Option.some.inj (Option.some.inj h : some d' = some d) : d' = d)
    subst e
    exact ⟨v, F1, [], F2, rfl, r, f⟩
  | none :: _, _, _, i + 1, d, ⟨w, τ, e, q⟩, h => by
    subst e
    obtain ⟨v, G, A, C, h1, h2, h3⟩ := repE_get (i := i) q h
    exact ⟨v, G, A, C, h1, h2, h3⟩
  | some d' :: _, _, _, i + 1, d, ⟨v', τ, F1, F2, e, f, r, q⟩, h => by
    subst e
    obtain ⟨v, G, A, C, h1, h2, h3⟩ := repE_get (i := i) q h
    exact ⟨v, G, F1 ++ A, C, h1, h2, by rw [f, h3, List.append_assoc]⟩
/-- a slot is stored -/
theorem repE_set {d : D} {v : V} {G : List Addr} (r0 : rep T Hf H d v G) : ∀ {ρ : List (Option D)} {σ : L2.St} {F : List Addr} (i : Nat), repE T Hf H ρ σ F →
    ∃ A B C, F = A ++ (B ++ C) ∧ ((ρ.length ≤ i ∧ B = [] ∧ repE T Hf H (ρ.set i (some d)) (σ.set i (some v)) (A ++ C)) ∨ repE T Hf H (ρ.set i (some d)) (σ.set i (some v)) (A ++ (G ++ C)))
  | [], _, _, i, ⟨e, f⟩ => by subst e; subst f; exact ⟨[], [], [], rfl, .inl ⟨by simp, rfl, rfl, rfl⟩⟩
  | none :: _, _, F, 0, ⟨w, τ, e, q⟩ => by
    subst e
    exact ⟨[], [], F, rfl, .inr ⟨v, τ, G, F, rfl, rfl, r0, q⟩⟩
  | some d' :: _, _, _, 0, ⟨v', τ, F1, F2, e, f, r, q⟩ => by
    subst e; subst f
    exact ⟨[], F1, F2, rfl, .inr ⟨v, τ, G, F2, rfl, rfl, r0, q⟩⟩
  | none :: ρ, _, F, i + 1, ⟨w, τ, e, q⟩ => by
    subst e
    obtain ⟨A, B, C, h1, h2⟩ := repE_set r0 i q
    refine ⟨A, B, C, h1, ?_⟩
    rcases h2 with ⟨z, h2, h3⟩ | h2
    · exact .inl ⟨by rw [List.length_cons]; omega, h2, w, _, rfl, h3⟩
    · exact .inr ⟨w, _, rfl, h2⟩
  | some d' :: ρ, _, F, i + 1, ⟨v', τ, F1, F2, e, f, r, q⟩ => by
    subst e; subst f
    obtain ⟨A, B, C, h1, h2⟩ := repE_set r0 i q
    refine ⟨F1 ++ A, B, C, by rw [h1, List.append_assoc], ?_⟩
    rcases h2 with ⟨z, h2, h3⟩ | h2
    · exact .inl ⟨by rw [List.length_cons]; omega, h2, v', _, F1, A ++ C, rfl, by rw [List.append_assoc], r, h3⟩
    · exact .inr ⟨v', _, F1, A ++ (G ++ C), rfl, by rw [List.append_assoc], r, h2⟩

/-- a frame's slots at a point of a def whose entry had the heaps Hf0, H0 -/
structure StOk (T : Tab) (Hf0 H0 Hf H : Hp) (ρ : List (Option D)) (σ : L2.St) : Prop where
  gr : Gr Hf0 H0 Hf H
  own : ∃ F, repE T Hf H ρ σ F ∧ New H0 Hf F
theorem StOk.sub {ρ : List (Option D)} {σ : L2.St} (S : StOk T Hf0 H0 Hf H ρ σ) : Ex Hf H := S.gr.s
theorem StOk.grow {ρ : List (Option D)} {σ : L2.St} (S : StOk T Hf0 H0 Hf H ρ σ) (g : Gr Hf H Hf' H') : StOk T Hf0 H0 Hf' H' ρ σ := by
  obtain ⟨F, r, n⟩ := S.own
  exact ⟨S.gr.trans g, F, repE_mono g.f (fun a _ o q => g.e a o q) r, n.grow g (repE_dom r)⟩
/-- a value that was made behind H1 is stored -/
theorem StOk.set {ρ : List (Option D)} {σ : L2.St} {d : D} {v : V} {G : List Addr} (i : Nat) (S : StOk T Hf0 H0 Hf H ρ σ) (g : Gr Hf H Hf' H') (r : rep T Hf' H' d v G) (n : New H Hf' G) : StOk T Hf0 H0 Hf' H' (ρ.set i (some d)) (σ.set i (some v)) := by
  obtain ⟨F, q, m⟩ := (S.grow g).own
  obtain ⟨F', q', m'⟩ := S.own
  have hF : ∃ F, repE T Hf' H' ρ σ F ∧ New H0 Hf' F ∧ ∀ a ∈ F, ∃ o, H a = some o := ⟨F', repE_mono g.f (fun a _ o q => g.e a o q) q', m'.grow g (repE_dom q'), repE_dom q'⟩
  obtain ⟨F, q, m, dm⟩ := hF
  refine ⟨(S.grow g).gr, ?_⟩
  obtain ⟨A, B, C, e, h⟩ := repE_set r i q
  subst e
  rcases h with ⟨_, e, h⟩ | h
  · subst e
    exact ⟨A ++ C, h, m⟩
  · refine ⟨A ++ (G ++ C), h, ?_⟩
    have nd := m.nd
    rw [List.nodup_append, List.nodup_append] at nd
    obtain ⟨n1, ⟨_, n2, _⟩, n3⟩ := nd
    have dis : ∀ a ∈ G, ∀ b, b ∈ A ++ (B ++ C) → a ≠ b := fun a ha b hb z => by
      subst z
      obtain ⟨o, qo⟩ := dm a hb
      rw [n.h a ha] at qo; cases qo
    refine ⟨?_, fun a ha => ?_, fun a ha => ?_⟩
    · rw [List.nodup_append, List.nodup_append]
      refine ⟨n1, ⟨n.nd, n2, fun a ha b hb => dis a ha b (List.mem_append_right _ (List.mem_append_right _ hb))⟩, fun a ha b hb => ?_⟩
      rcases List.mem_append.mp hb with hb | hb
      · exact fun z => dis b hb a (List.mem_append_left _ ha) z.symm
      · exact n3 a ha b (List.mem_append_right _ hb)
    · rcases List.mem_append.mp ha with ha | ha
      · exact m.h a (List.mem_append_left _ ha)
      · rcases List.mem_append.mp ha with ha | ha
        · exact none_back S.gr.e (n.h a ha)
        · exact m.h a (List.mem_append_right _ (List.mem_append_right _ ha))
    · rcases List.mem_append.mp ha with ha | ha
      · exact m.f a (List.mem_append_left _ ha)
      · rcases List.mem_append.mp ha with ha | ha
        · exact n.f a ha
        · exact m.f a (List.mem_append_right _ (List.mem_append_right _ ha))

/-! ### freezing -/
mutual
def frz : D → D
  | .lst .ro ds => .lst .ro (frzS ds)
  | .lst .own ds => .lst .fz (frzS ds)
  | .lst .fz ds => .lst .fz (frzS ds)
  | .obj _ c ks ds => .obj none c ks ds
  | .non => .non
  | .bl b => .bl b
  | .int i => .int i
  | .str x => .str x
  | .tup ds => .tup ds
def frzS : List D → List D
  | [] => []
  | d :: ds => frz d :: frzS ds
end
theorem frzS_map : ∀ ds : List D, frzS ds = ds.map frz
  | [] => rfl
  | d :: ds => by rw [List.map_cons, ← frzS_map ds]; rfl
theorem frz_fz (d : D) : (frz d).fz = true := by
  cases d with
  | lst m ds => cases m <;> rfl
  | _ => rfl
mutual
theorem rep_frz (e : Ex Hf Hf') : ∀ (d : D) (v : V) (F : List Addr), (∀ a ∈ F, ∀ o, H a = some o → Hf' a = some o) → rep T Hf H d v F → rep T Hf' H (frz d) v []
  | .non, _, _, _, h => ⟨h.1, rfl⟩
  | .bl _, _, _, _, h => ⟨h.1, rfl⟩
  | .int _, _, _, _, h => ⟨h.1, rfl⟩
  | .str _, _, _, _, h => ⟨h.1, rfl⟩
  | .lst .own ds, _, _, k, ⟨a, xs, G, ev, f, q, r⟩ => ⟨a, xs, ev, rfl, .inl (k a (by rw [f]; exact List.mem_cons_self) _ q), repS_frz e ds _ _ (fun b hb => k b (by rw [f]; exact List.mem_cons_of_mem _ hb)) r⟩
  | .lst .ro ds, _, _, k, ⟨a, xs, ev, f, q, r⟩ => ⟨a, xs, ev, rfl, ex_l e q, repS_frz e ds _ _ (fun b hb => by cases hb) r⟩
  | .lst .fz ds, _, _, k, ⟨a, xs, ev, f, q, r⟩ => ⟨a, xs, ev, rfl, ex_rd e q, repS_frz e ds _ _ (fun b hb => by cases hb) r⟩
  | .tup ds, _, _, k, ⟨a, xs, ev, f, q, r⟩ => ⟨a, xs, ev, rfl, ex_t e q, repS_mono e ds _ _ (fun _ hb => by cases hb) r⟩
  | .obj (some _) c ks ds, _, _, k, ⟨a, dx, fs, ev, f, q, n, r⟩ => ⟨a, dx, fs, ev, rfl, k a (by rw [f]; exact List.mem_cons_self) _ q.2, n, repS_mono e ds _ _ (fun _ hb => by cases hb) r⟩
  | .obj none c ks ds, _, _, k, ⟨a, dx, fs, ev, f, q, n, r⟩ => ⟨a, dx, fs, ev, rfl, e _ _ q, n, repS_mono e ds _ _ (fun _ hb => by cases hb) r⟩
theorem repS_frz (e : Ex Hf Hf') : ∀ (ds : List D) (xs : List V) (F : List Addr), (∀ a ∈ F, ∀ o, H a = some o → Hf' a = some o) → repS T Hf H ds xs F → repS T Hf' H (frzS ds) xs []
  | [], _, _, _, h => ⟨h.1, rfl⟩
  | d :: ds, _, _, k, ⟨v, vs, F1, F2, ev, f, r, q⟩ => ⟨v, vs, [], [], ev, rfl, rep_frz e d v F1 (fun a ha => k a (by rw [f]; exact List.mem_append_left _ ha)) r, repS_frz e ds vs F2 (fun a ha => k a (by rw [f]; exact List.mem_append_right _ ha)) q⟩
end
/-- the frozen heap with the things at F -/
def plus (Hf H : Hp) (F : List Addr) : Hp := fun a => if a ∈ F then H a else Hf a
theorem plus_ex {F : List Addr} (n : ∀ a ∈ F, Hf a = none) : Ex Hf (plus Hf H F) := fun a o q => by
  unfold plus
  by_cases h : a ∈ F
  · rw [n a h] at q; cases q
  · rw [if_neg h]; exact q
theorem plus_in {F : List Addr} : ∀ a ∈ F, ∀ o, H a = some o → plus Hf H F a = some o := fun a ha o q => by
  unfold plus; rw [if_pos ha]; exact q
theorem plus_sub {F : List Addr} (e : Ex Hf H) : Ex (plus Hf H F) H := fun a o q => by
  unfold plus at q
  by_cases h : a ∈ F
  · rw [if_pos h] at q; exact q
  · rw [if_neg h] at q; exact e a o q
theorem plus_none {F : List Addr} {a : Addr} (h : a ∉ F) (e : Hf a = none) : plus Hf H F a = none := by
  unfold plus; rw [if_neg h]; exact e
/-- freezing what is new is growing -/
theorem plus_gr {Hf1 H1 : Hp} {F : List Addr} (g : Gr Hf1 H1 Hf H) (n : New H1 Hf F) : Gr Hf1 H1 (plus Hf H F) H :=
  ⟨g.e, fun a o q => plus_ex n.f a o (g.f a o q), plus_sub g.s, fun a o q => by
    unfold plus at q
    by_cases h : a ∈ F
    · exact .inr (n.h a h)
    · rw [if_neg h] at q; exact g.n a o q⟩
/-- a slot is frozen -/
def frzAt (ρ : List (Option D)) (i : Nat) : List (Option D) := match ρ[i]? with
  | some (some d) => ρ.set i (some (frz d))
  | _ => ρ
theorem StOk.frz {ρ : List (Option D)} {σ : L2.St} (S : StOk T Hf0 H0 Hf H ρ σ) (i : Nat) : ∃ Hf', Ex Hf Hf' ∧ StOk T Hf0 H0 Hf' H (frzAt ρ i) σ := by
  unfold frzAt
  split
  · rename_i d hd
    obtain ⟨F, q, m⟩ := S.own
    -- walk to the slot
    have go : ∀ {ρ : List (Option D)} {σ : L2.St} {F : List Addr} (i : Nat), ρ[i]? = some (some d) → repE T Hf H ρ σ F → ∃ A G C, F = A ++ (G ++ C) ∧ ∀ Hf2, Ex Hf Hf2 → (∀ a ∈ G, ∀ o, H a = some o → Hf2 a = some o) → repE T Hf2 H (ρ.set i (some (Z.frz d))) σ (A ++ C) := by
      intro ρ
      induction ρ with
      | nil => intro σ F i h; simp at h
      | cons w ρ ih =>
        intro σ F i h r
        cases i with
        | zero =>
          have e : w = some d := by simpa using h
          subst e
          obtain ⟨v, τ, F1, F2, e, f, r1, r2⟩ := r
          refine ⟨[], F1, F2, f, fun Hf2 e2 k => ⟨v, τ, [], F2, e, rfl, rep_frz e2 d v F1 k r1, repE_mono e2 (fun a _ o q => q) r2⟩⟩
        | succ i =>
          have h' : ρ[i]? = some (some d) := by simpa using h
          cases w with
          | none =>
            obtain ⟨u, τ, e, r2⟩ := r
            obtain ⟨A, G, C, e1, k⟩ := ih i h' r2
            exact ⟨A, G, C, e1, fun Hf2 e2 kk => ⟨u, τ, e, k Hf2 e2 kk⟩⟩
          | some d2 =>
            obtain ⟨v, τ, F1, F2, e, f, r1, r2⟩ := r
            obtain ⟨A, G, C, e1, k⟩ := ih i h' r2
            exact ⟨F1 ++ A, G, C, by rw [f, e1, List.append_assoc], fun Hf2 e2 kk => ⟨v, τ, F1, A ++ C, e, by rw [List.append_assoc], rep_mono e2 d2 v F1 (fun a _ o q => q) r1, k Hf2 e2 kk⟩⟩
    obtain ⟨A, G, C, e, k⟩ := go i hd q
    subst e
    have nG : ∀ a ∈ G, Hf a = none := fun a ha => m.f a (List.mem_append_right _ (List.mem_append_left _ ha))
    have nd := m.nd
    rw [List.nodup_append, List.nodup_append] at nd
    obtain ⟨n1, ⟨_, n2, n4⟩, n3⟩ := nd
    refine ⟨plus Hf H G, plus_ex nG, ⟨⟨S.gr.e, fun a o q => plus_ex nG a o (S.gr.f a o q), plus_sub S.gr.s, fun a o q => ?_⟩, A ++ C, k _ (plus_ex nG) plus_in, ?_, fun a ha => ?_, fun a ha => ?_⟩⟩
    · unfold plus at q
      by_cases h : a ∈ G
      · exact .inr (m.h a (List.mem_append_right _ (List.mem_append_left _ h)))
      · rw [if_neg h] at q; exact S.gr.n a o q
    · rw [List.nodup_append]
      exact ⟨n1, n2, fun a ha b hb => n3 a ha b (List.mem_append_right _ hb)⟩
    · rcases List.mem_append.mp ha with ha | ha
      · exact m.h a (List.mem_append_left _ ha)
      · exact m.h a (List.mem_append_right _ (List.mem_append_right _ ha))
    · rcases List.mem_append.mp ha with ha | ha
      · exact plus_none (fun hg => n3 a ha a (List.mem_append_left _ hg) rfl) (m.f a (List.mem_append_left _ ha))
      · exact plus_none (fun hg => n4 a hg a ha rfl) (m.f a (List.mem_append_right _ (List.mem_append_right _ ha)))
  · exact ⟨Hf, fun _ _ q => q, S⟩
def frzL (ρ : List (Option D)) : List Nat → List (Option D)
  | [] => ρ
  | i :: r => frzL (frzAt ρ i) r
theorem StOk.frzL {σ : L2.St} : ∀ {ρ : List (Option D)} {Hf : Hp} (is : List Nat), StOk T Hf0 H0 Hf H ρ σ → ∃ Hf', Ex Hf Hf' ∧ StOk T Hf0 H0 Hf' H (Z.frzL ρ is) σ
  | ρ, Hf, [], S => ⟨Hf, fun _ _ q => q, S⟩
  | ρ, Hf, i :: r, S => by
    obtain ⟨Hf1, e1, S1⟩ := S.frz i
    obtain ⟨Hf2, e2, S2⟩ := StOk.frzL r S1
    exact ⟨Hf2, fun a o q => e2 a o (e1 a o q), S2⟩
end
end Z

/-! Z3: a small language of expressions and statements over trees, and what it computes. -/
namespace Z
open PySem L2

/-- built-in functions that are asked of values -/
inductive Bn where
  | len | int | tuple | list | sorted | max1 | min1 | max2 | min2 | maxN | sum | abs | bitlen | bool | setsort | repr
  deriving DecidableEq
inductive Tg where
  | name (i : Nat)
  | tup (ts : List Tg)
/-- what isinstance is asked for -/
inductive Is where
  | int | bool | tuple | list | str | cls (c : Nat)
  deriving DecidableEq
mutual
inductive E where
  | slot (i : Nat)
  | con (d : D)
  | bin (op : Operator) (a b : E)
  | un (op : UnaryOp) (a : E)
  | cmp (op : CmpOp) (a b : E)
  | chain (op op' : CmpOp) (a b c : E)
  | and (a b : E)
  | or (a b : E)
  | not (a : E)
  | ite (c a b : E)
  | idx (a b : E)
  | sl (a lo hi : E)
  | skip
  | keep (a : E)
  | fld (a : E) (k : Nat)
  | tup (es : Es)
  | lst (es : Es)
  | call (f : Nat) (es : Es) (dd : List D)
  | meth (m : Nat) (a : E) (es : Es)
  | mk (c : Nat) (es : Es) (dd : List D)
  | blt (b : Bn) (es : Es)
  | isi (a : E) (k : Is)
  | lc (vs : List Nat) (elt : E) (tg : Tg) (it : It) (ifs : Es)
inductive Es where
  | nil
  | cons (e : E) (r : Es)
inductive It where
  | lst (e : E)
  | rng1 (e : E)
  | rng2 (a b : E)
  | down (a b c : E)
  | enum (e : E)
  | zip (a b : E)
end
mutual
inductive S where
  | asg (tg : Tg) (e : E)
  | fld (i k : Nat) (e : E)
  | sub (i : Nat) (ix e : E)
  | app (i : Nat) (e : E)
  | app2 (i : Nat) (ix e : E)
  | drop (e : E)
  | ite (c : E) (a b : Ss)
  | for_ (tg : Tg) (it : It) (b : Ss)
  | while_ (c : E) (b : Ss)
  | ret (e : E)
  | retN
  | pass
  | brk
  | cont
  | never
inductive Ss where
  | nil
  | cons (s : S) (r : Ss)
end

abbrev Rho := List (Option D)
/-- what an own class has a def for -/
inductive Sp1 where
  | bin (op : Operator) | cmp (op : CmpOp) | len | iter
/-- what the program's own things compute -/
structure Gd where
  call : Nat → List D → Option D
  meth : Nat → Nat → Option Nat
  new : Nat → List D → Option D
  wf : Nat
  spec : Nat → Sp1 → Option Nat
/-- an own class's def -/
def callS (G : Gd) (c : Nat) (s : Sp1) (ds : List D) : Option D := match G.spec c s with
  | some f => G.call f ds
  | none => none

def most : Nat := 100000
def mulOk (i j : Int) : Bool := (decide (-(2 ^ 64) < i) && decide (i < 2 ^ 64)) || (decide (-(2 ^ 64) < j) && decide (j < 2 ^ 64))
def shOk (i j : Int) : Bool := decide (0 ≤ j) && decide (j ≤ 1000000) && decide (i.natAbs < 2 ^ 64)
def binD : Operator → D → D → Option D
  | .Add, .int i, .int j => some (.int (i + j))
  | .Sub, .int i, .int j => some (.int (i - j))
  | .Mult, .int i, .int j => if mulOk i j || decide (i.natAbs.log2 + j.natAbs.log2 < 1000000) then some (.int (i * j)) else none
  | .FloorDiv, .int i, .int j => if decide (0 < j) && (decide (j < 1073741824) || decide (j.natAbs.log2 < 9000)) then some (.int (i / j)) else none
  | .Mod, .int i, .int j => if decide (0 < j) then some (.int (i % j)) else none
  | .Pow, .int i, .int j => if shOk i j then some (.int (i ^ j.toNat)) else none
  | .LShift, .int i, .int j => if shOk i j then some (.int (i * 2 ^ j.toNat)) else none
  | .RShift, .int i, .int j => if decide (0 ≤ j) then some (.int (i / 2 ^ j.toNat)) else none
  | .BitAnd, .int i, .int j => some (.int (Builtin.bitAnd i j))
  | .BitOr, .int i, .int j => some (.int (Builtin.bitOr i j))
  | .BitXor, .int i, .int j => some (.int (Builtin.bitXor i j))
  | .Add, .lst m ds, .lst m' es => if decide (m ≠ .ro) && decide (m' ≠ .ro) && fzs ds && fzs es && decide (ds.length + es.length ≤ most) then some (.lst .own (ds ++ es)) else none
  | .Mult, .lst .own ds, .int j => if fzs ds && decide (0 ≤ j) && decide (j ≤ most) && decide (ds.length * j.toNat ≤ most) then some (.lst .own ((List.replicate j.toNat ds).flatten)) else none
  | _, _, _ => none
def unD : UnaryOp → D → Option D
  | .USub, .int i => some (.int (-i))
  | .Invert, .int i => some (.int (Builtin.bitNot i))
  | _, _ => none
/-- scalars -/
def D.scal : D → Bool
  | .non => true | .bl _ => true | .int _ => true | .str _ => true
  | _ => false
/-- a value without things -/
def D.flat : D → Bool
  | .non => true | .bl _ => true | .int _ => true | .str _ => true
  | _ => false
def D.v : D → V
  | .bl b => .bl b | .int i => .int i | .str x => .str x
  | _ => .non
/-- what a parameter may have as its default -/
def D.dfl : D → Bool
  | .tup [] => true
  | .non => true | .bl _ => true | .int _ => true | .str _ => true
  | _ => false
mutual
def toPy : D → Option PyData
  | .non => some .none
  | .bl b => some (.bool b)
  | .int i => some (.int i)
  | .str x => some (.str x)
  | .lst _ ds => (toPyS ds).map .list
  | .tup ds => (toPyS ds).map .tuple
  | .obj _ _ _ _ => none
def toPyS : List D → Option (List PyData)
  | [] => some []
  | d :: ds => match toPy d, toPyS ds with
    | some p, some ps => some (p :: ps)
    | _, _ => none
end
/-- equality of data (no objects) -/
def eqD (x y : D) : Option Bool := match toPy x, toPy y with
  | some p, some q => if SeqAt.shaped p && SeqAt.shaped q then some (PyData.eqv p q) else none
  | _, _ => none
/-- membership -/
def inD (x : D) : D → Option Bool
  | .tup ds => if x.flat && ds.all D.flat then some (ds.any fun z => eqV z.v x.v) else none
  | .lst _ ds => match toPy x, toPyS ds with
    | some p, some ps => if SeqAt.shaped p && SeqAt.shaped (.list ps) then some (ps.any fun z => PyData.eqv z p) else none
    | _, _ => none
  | _ => none
def D.isN : D → Bool
  | .non => true
  | _ => false
def cmpD : CmpOp → D → D → Option Bool
  | .Lt, .int i, .int j => some (decide (i < j))
  | .LtE, .int i, .int j => some (decide (i ≤ j))
  | .Gt, .int i, .int j => some (decide (j < i))
  | .GtE, .int i, .int j => some (decide (j ≤ i))
  | .Eq, x, y => eqD x y
  | .NotEq, x, y => (eqD x y).map (!·)
  | .In, x, y => inD x y
  | .NotIn, x, y => (inD x y).map (!·)
  | .Is, x, .non => some x.isN
  | .IsNot, x, .non => some (!x.isN)
  | .Is, .bl a, .bl b => some (decide (a = b))
  | .IsNot, .bl a, .bl b => some (!decide (a = b))
  | _, _, _ => none
/-- truth -/
def truD : D → Option Bool
  | .non => some false
  | .bl b => some b
  | .int i => some (i != 0)
  | .lst _ ds => some (!ds.isEmpty)
  | .tup ds => some (!ds.isEmpty)
  | _ => none
def at? (ds : List D) (i : Int) : Option D := atI ds i
def sIxD (n d : Nat) (o : Option Int) : Nat := HT.sIx n d o
def intsOf : List D → Option (List Int)
  | [] => some []
  | .int i :: r => (intsOf r).map (i :: ·)
  | _ :: _ => none
def insI (i : Int) : List Int → List Int
  | [] => [i]
  | j :: r => if i ≤ j then i :: j :: r else j :: insI i r
def srtI : List Int → List Int
  | [] => []
  | i :: r => insI i (srtI r)
/-- pairs of intsOf, in order, each once -/
def pairsOf : List D → Option (List (Int × Int))
  | [] => some []
  | .tup [.int a, .int b] :: r => (pairsOf r).map ((a, b) :: ·)
  | _ :: _ => none
def plt (p q : Int × Int) : Bool := decide (p.1 < q.1) || (decide (p.1 = q.1) && decide (p.2 < q.2))
def insP (p : Int × Int) : List (Int × Int) → List (Int × Int)
  | [] => [p]
  | q :: r => if plt p q then p :: q :: r else if p = q then q :: r else q :: insP p r
def srtP : List (Int × Int) → List (Int × Int)
  | [] => []
  | p :: r => insP p (srtP r)
def dP (p : Int × Int) : D := .tup [.int p.1, .int p.2]
def maxI : List Int → Option Int
  | [] => none
  | [i] => some i
  | i :: r => (maxI r).map fun j => if j ≤ i then i else j
def minI : List Int → Option Int
  | [] => none
  | [i] => some i
  | i :: r => (minI r).map fun j => if i ≤ j then i else j
/-- the number of figures of |n| by two -/
def bitLen (n : Int) : Int := (Builtin.Int.intBits n : Nat)
def seqD : D → Option (List D)
  | .lst _ ds => some ds
  | .tup ds => some ds
  | _ => none
def seqI (x : D) : Option (List Int) := match seqD x with
  | some ds => intsOf ds
  | none => none
/-- a list alone (no tuple) -/
def lstI : D → Option (List Int)
  | .lst _ ds => intsOf ds
  | _ => none
def lenD : D → Option D
  | .lst _ ds => some (.int ds.length)
  | .tup ds => some (.int ds.length)
  | _ => none
def intD : D → Option D
  | .int i => some (.int i)
  | .bl b => some (.int (if b then 1 else 0))
  | _ => none
def boolD : D → Option D
  | .int i => some (.bl (i != 0))
  | .bl b => some (.bl b)
  | _ => none
def tupleD : D → Option D
  | .lst _ ds => if fzs ds then some (.tup ds) else none
  | .tup ds => some (.tup ds)
  | _ => none
def listD (x : D) : Option D := match seqD x with
  | some ds => if fzs ds then some (.lst .own ds) else none
  | none => none
def sortedD (x : D) : Option D := (lstI x).map fun is => .lst .own ((srtI is).map .int)
def max1D (x : D) : Option D := ((lstI x).bind maxI).map .int
def min1D (x : D) : Option D := ((lstI x).bind minI).map .int
def maxND (x : D) : Option D := (lstI x).map fun is => match maxI is with | some i => .int i | none => .non
def sumD (x : D) : Option D := (lstI x).map fun is => .int is.sum
def absD : D → Option D
  | .int i => some (.int (if i < 0 then -i else i))
  | _ => none
def bitlenD : D → Option D
  | .int i => some (.int (bitLen i))
  | _ => none
def setsortD (x : D) : Option D := match x with
  | .lst _ ds => (pairsOf ds).bind fun ps => if decide (ps.length < 64) && ps.all (fun p => decide (0 ≤ p.1) && decide (0 ≤ p.2)) then some (.lst .own ((srtP ps).map dP)) else none
  | _ => none
def max2D : D → D → Option D
  | .int i, .int j => some (.int (if j > i then j else i))
  | _, _ => none
def min2D : D → D → Option D
  | .int i, .int j => some (.int (if j < i then j else i))
  | _, _ => none
def one (g : D → Option D) : List D → Option D
  | [d] => g d
  | _ => none
def two2 (g : D → D → Option D) : List D → Option D
  | [d, e] => g d e
  | _ => none
def bltD : Bn → List D → Option D
  | .len => one lenD
  | .int => one intD
  | .bool => one boolD
  | .tuple => one tupleD
  | .list => one listD
  | .sorted => one sortedD
  | .max1 => one max1D
  | .min1 => one min1D
  | .maxN => one maxND
  | .sum => one sumD
  | .abs => one absD
  | .bitlen => one bitlenD
  | .setsort => one setsortD
  | .max2 => two2 max2D
  | .min2 => two2 min2D
  | .repr => fun _ => none
/-- the kinds of data -/
inductive Kd where
  | kn | kb | ki | ks | kl | kt
  deriving DecidableEq
def kdD : D → Option Kd
  | .non => some .kn
  | .bl _ => some .kb
  | .int _ => some .ki
  | .str _ => some .ks
  | .lst _ _ => some .kl
  | .tup _ => some .kt
  | .obj _ _ _ _ => none
def isK : Kd → Is → Option Bool
  | _, .cls _ => none
  | .ki, .int => some true
  | .kb, .int => some true
  | .kb, .bool => some true
  | .kl, .list => some true
  | .kt, .tuple => some true
  | .ks, .str => some true
  | _, _ => some false
def isiD : D → Is → Option Bool
  | .obj _ c _ _, .cls c' => if c = c' then some true else none
  | .obj _ _ _ _, _ => none
  | d, k => match kdD d with
    | some q => isK q k
    | none => none
def getF (k : Nat) : List Nat → List D → Option D
  | j :: ks, d :: ds => if j = k then some d else getF k ks ds
  | _, _ => none
def putK (k : Nat) (d : D) : List Nat → List D → Option (List Nat × List D)
  | [], [] => some ([k], [d])
  | j :: ks, e :: ds => if j = k then some (j :: ks, d :: ds) else (putK k d ks ds).map fun p => (j :: p.1, e :: p.2)
  | _, _ => none
mutual
def bindT : Tg → D → Rho → Option Rho
  | .name i, d, ρ => some (ρ.set i (some d))
  | .tup ts, .tup ds, ρ => bindTs ts ds ρ
  | .tup _, _, _ => none
def bindTs : List Tg → List D → Rho → Option Rho
  | [], [], ρ => some ρ
  | t :: ts, d :: ds, ρ => (bindT t d ρ).bind fun ρ' => bindTs ts ds ρ'
  | _, _, _ => none
end
def wipeR (ρ : Rho) : List Nat → Rho
  | [] => ρ
  | v :: vs => (wipeR ρ vs).set v none
/-- a comprehension's items -/
def compD (f : D → Option (Option D)) : List D → Option (List D)
  | [] => some []
  | d :: r => match f d, compD f r with
    | some (some x), some ys => some (x :: ys)
    | some none, some ys => some ys
    | _, _ => none
def rngD (lo : Int) : Nat → List D
  | 0 => []
  | n + 1 => .int lo :: rngD (lo + 1) n
def rngOk (a b : Int) : Bool := decide (-(2 ^ 62) ≤ a) && decide (a < 2 ^ 62) && decide (-(2 ^ 62) ≤ b) && decide (b < 2 ^ 62)
def enumD (i : Int) : List D → List D
  | [] => []
  | d :: r => .tup [.int i, d] :: enumD (i + 1) r
def zipD : List D → List D → List D
  | a :: r, b :: s => .tup [a, b] :: zipD r s
  | _, _ => []

/-- a part of a slice -/
def optI : E → Option (D × Bool) → Option (Option Int)
  | .skip, _ => some none
  | _, some (.int i, _) => some (some i)
  | _, _ => none

def blOf : Option D → Option Bool
  | some (.bl b) => some b
  | _ => none
def lnOf : Option D → Option D
  | some (.int n) => if decide (0 ≤ n) && decide (n < 2 ^ 63) then some (.int n) else none
  | _ => none
def binG (G : Gd) (op : Operator) (x y : D) : Option D := match x, y with
  | .obj none c ks ds, .obj none c' ks' ds' => if c = c' then callS G c (.bin op) [.obj none c ks ds, .obj none c' ks' ds'] else none
  | _, _ => binD op x y
def cmpG (G : Gd) (op : CmpOp) (x y : D) : Option Bool := match x, op, y with
  | .obj none c ks ds, .Eq, .obj none c' ks' ds' => if c = c' then blOf (callS G c (.cmp .Eq) [.obj none c ks ds, .obj none c' ks' ds']) else none
  | x, .In, .obj none c ks ds => if x.fz then blOf (callS G c (.cmp .In) [.obj none c ks ds, frz x]) else none
  | x, .NotIn, .obj none c ks ds => if x.fz then (blOf (callS G c (.cmp .In) [.obj none c ks ds, frz x])).map (!·) else none
  | x, op, y => cmpD op x y
def bltG (G : Gd) (b : Bn) (ds : List D) : Option D := match b, ds with
  | .len, [.obj none c ks fs] => lnOf (callS G c .len [.obj none c ks fs])
  | b, ds => bltD b ds
section
variable (G : Gd)
mutual
def ev : E → Rho → Option (D × Bool)
  | .slot i, ρ => match ρ[i]? with
    | some (some d) => some (d, d.fz)
    | _ => none
  | .con d, _ => if d.scal then some (d, true) else none
  | .bin op a b, ρ => match ev a ρ, ev b ρ with
    | some (x, _), some (y, _) => (binG G op x y).map (·, true)
    | _, _ => none
  | .un op a, ρ => match ev a ρ with
    | some (x, _) => (unD op x).map (·, true)
    | none => none
  | .cmp op a b, ρ => match ev a ρ, ev b ρ with
    | some (x, _), some (y, _) => (cmpG G op x y).map fun k => (.bl k, true)
    | _, _ => none
  | .chain op op' a b c, ρ => match ev a ρ, ev b ρ with
    | some (x, _), some (y, _) => match cmpD op x y with
      | some true => match ev c ρ with
        | some (z, _) => (cmpD op' y z).map fun k => (.bl k, true)
        | none => none
      | some false => some (.bl false, true)
      | none => none
    | _, _ => none
  | .and a b, ρ => match ev a ρ with
    | some (.bl true, _) => match ev b ρ with
      | some (.bl k, _) => some (.bl k, true)
      | _ => none
    | some (.bl false, _) => some (.bl false, true)
    | _ => none
  | .or a b, ρ => match ev a ρ with
    | some (.bl false, _) => match ev b ρ with
      | some (.bl k, _) => some (.bl k, true)
      | _ => none
    | some (.bl true, _) => some (.bl true, true)
    | _ => none
  | .not a, ρ => match ev a ρ with
    | some (.bl k, _) => some (.bl (!k), true)
    | _ => none
  | .ite c a b, ρ => match ev c ρ with
    | some (.bl true, _) => ev a ρ
    | some (.bl false, _) => ev b ρ
    | _ => none
  | .idx a b, ρ => match ev a ρ, ev b ρ with
    | some (x, _), some (.int i, _) => match seqD x with
      | some ds => (at? ds i).map fun d => (d, d.fz)
      | none => none
    | _, _ => none
  | .sl a lo hi, ρ => match ev a ρ, optI lo (ev lo ρ), optI hi (ev hi ρ) with
    | some (.lst _ ds, _), some l, some h => if fzs ds then
        some (.lst .own ((ds.drop (sIxD ds.length 0 l)).take (sIxD ds.length ds.length h - sIxD ds.length 0 l)), true) else none
    | some (.tup ds, _), some l, some h => some (.tup ((ds.drop (sIxD ds.length 0 l)).take (sIxD ds.length ds.length h - sIxD ds.length 0 l)), true)
    | _, _, _ => none
  | .skip, _ => none
  | .keep a, ρ => ev a ρ
  | .fld a k, ρ => match ev a ρ with
    | some (.obj _ _ ks ds, _) => (getF k ks ds).map fun d => (d, d.fz)
    | _ => none
  | .tup es, ρ => match evs es ρ with
    | some (ds, true) => if decide (ds.length ≤ most) then some (.tup (frzS ds), true) else none
    | _ => none
  | .lst es, ρ => match evs es ρ with
    | some (ds, true) => if decide (ds.length ≤ most) then some (.lst .own ds, true) else none
    | _ => none
  | .call f es dd, ρ => match evs es ρ with
    | some (ds, true) => if dd.all D.dfl then (G.call f (frzS ds ++ dd)).map (·, true) else none
    | _ => none
  | .meth m a es, ρ => match ev a ρ, evs es ρ with
    | some (.obj none c ks fs, _), some (ds, true) => match G.meth c m with
      | some f => (G.call f (.obj none c ks fs :: frzS ds)).map (·, true)
      | none => none
    | _, _ => none
  | .mk c es dd, ρ => match evs es ρ with
    | some (ds, true) => if dd.all D.dfl then (G.new c (frzS ds ++ dd)).map (·, true) else none
    | _ => none
  | .blt b es, ρ => match evs es ρ with
    | some (ds, _) => (bltG G b ds).map (·, true)
    | none => none
  | .isi a k, ρ => match ev a ρ with
    | some (x, _) => (isiD x k).map fun b => (.bl b, true)
    | none => none
  | .lc vs elt tg it ifs, ρ => match evI it ρ with
    | some items => if decide (items.length ≤ 40000) then
        (compD (fun d => match bindT tg d (wipeR ρ vs) with
          | some ρ' => match evT ifs ρ' with
            | some true => match ev elt ρ' with
              | some (x, true) => some (some x)
              | _ => none
            | some false => some none
            | none => none
          | none => none) items).map fun ds => (.lst .own ds, true)
        else none
    | none => none
def evs : Es → Rho → Option (List D × Bool)
  | .nil, _ => some ([], true)
  | .cons e r, ρ => match ev e ρ, evs r ρ with
    | some (d, f), some (ds, g) => some (d :: ds, f && g)
    | _, _ => none
/-- all of these tests hold -/
def evT : Es → Rho → Option Bool
  | .nil, _ => some true
  | .cons e r, ρ => match ev e ρ with
    | some (d, _) => match truD d with
      | some true => evT r ρ
      | some false => some false
      | none => none
    | none => none
def evI : It → Rho → Option (List D)
  | .lst e, ρ => match ev e ρ with
    | some (d, true) => seqD (frz d)
    | _ => none
  | .rng1 e, ρ => match ev e ρ with
    | some (.int j, _) => if rngOk 0 j then some (rngD 0 j.toNat) else none
    | _ => none
  | .rng2 a b, ρ => match ev a ρ, ev b ρ with
    | some (.int i, _), some (.int j, _) => if rngOk i j then some (rngD i (j - i).toNat) else none
    | _, _ => none
  | .down a b c, ρ => match ev a ρ, ev b ρ, ev c ρ with
    | some (.int i, _), some (.int j, _), some (.int l, _) => if rngOk i j && decide (l = -1) then some (rngD (j + 1) (i - j).toNat).reverse else none
    | _, _, _ => none
  | .enum e, ρ => match ev e ρ with
    | some (d, true) => (seqD (frz d)).map (enumD 0)
    | _ => none
  | .zip a b, ρ => match ev a ρ, ev b ρ with
    | some (x, true), some (y, true) => match seqD (frz x), seqD (frz y) with
      | some ds, some es => some (zipD ds es)
      | _, _ => none
    | _, _ => none
end
end
end Z

/-! Z4: statements. -/
namespace Z
open PySem L2
/-- the slot that a path of subscripts and fields begins at -/
def roots : E → List Nat
  | .slot i => [i]
  | .idx a _ => roots a
  | .fld a _ => roots a
  | .keep a => roots a
  | _ => []
mutual
/-- the slots whose things a value of the expression may keep hold of -/
def kept : E → List Nat
  | .slot i => [i]
  | .con _ => []
  | .skip => []
  | .keep a => roots a ++ kept a
  | .bin _ a b => peek a ++ peek b
  | .un _ a => peek a
  | .cmp _ a b => peek a ++ peek b
  | .chain _ _ a b c => peek a ++ (peek b ++ peek c)
  | .and a b => peek a ++ peek b
  | .or a b => peek a ++ peek b
  | .not a => peek a
  | .ite c a b => peek c ++ (kept a ++ kept b)
  | .idx a b => peek a ++ peek b
  | .sl a lo hi => peek a ++ (peek lo ++ peek hi)
  | .fld a _ => peek a
  | .tup es => keptS es
  | .lst es => keptS es
  | .call _ es _ => keptS es
  | .meth _ a es => kept a ++ keptS es
  | .mk _ es _ => keptS es
  | .blt _ es => peekS es
  | .isi a _ => peek a
  | .lc _ elt _ it ifs => keptI it ++ (kept elt ++ peekS ifs)
/-- the same where the value is looked at alone -/
def peek : E → List Nat
  | .slot _ => []
  | .con _ => []
  | .skip => []
  | .keep a => peek a
  | .bin _ a b => peek a ++ peek b
  | .un _ a => peek a
  | .cmp _ a b => peek a ++ peek b
  | .chain _ _ a b c => peek a ++ (peek b ++ peek c)
  | .and a b => peek a ++ peek b
  | .or a b => peek a ++ peek b
  | .not a => peek a
  | .ite c a b => peek c ++ (peek a ++ peek b)
  | .idx a b => peek a ++ peek b
  | .sl a lo hi => peek a ++ (peek lo ++ peek hi)
  | .fld a _ => peek a
  | .tup es => keptS es
  | .lst es => keptS es
  | .call _ es _ => keptS es
  | .meth _ a es => kept a ++ keptS es
  | .mk _ es _ => keptS es
  | .blt _ es => peekS es
  | .isi a _ => peek a
  | .lc _ elt _ it ifs => keptI it ++ (kept elt ++ peekS ifs)
def keptS : Es → List Nat
  | .nil => []
  | .cons e r => kept e ++ keptS r
def peekS : Es → List Nat
  | .nil => []
  | .cons e r => peek e ++ peekS r
def keptI : It → List Nat
  | .lst e => kept e
  | .rng1 e => peek e
  | .rng2 a b => peek a ++ peek b
  | .down a b c => peek a ++ (peek b ++ peek c)
  | .enum e => kept e
  | .zip a b => kept a ++ kept b
end
inductive Out where
  | nx (ρ : Rho)
  | rt (d : D)
  | bk (ρ : Rho)
  | ct (ρ : Rho)
def forD (bd : D → Rho → Option Rho) (body : Rho → Option Out) : List D → Rho → Option Out
  | [], ρ => some (.nx ρ)
  | d :: r, ρ => match bd d ρ with
    | some ρ1 => match body ρ1 with
      | some (.nx ρ2) => forD bd body r ρ2
      | some (.ct ρ2) => forD bd body r ρ2
      | some (.bk ρ2) => some (.nx ρ2)
      | some (.rt d) => some (.rt d)
      | none => none
    | none => none
def whileD (c : Rho → Option Bool) (body : Rho → Option Out) : Nat → Rho → Option Out
  | 0, _ => none
  | n + 1, ρ => match c ρ with
    | some true => match body ρ with
      | some (.nx ρ2) => whileD c body n ρ2
      | some (.ct ρ2) => whileD c body n ρ2
      | some (.bk ρ2) => some (.nx ρ2)
      | some (.rt d) => some (.rt d)
      | none => none
    | some false => some (.nx ρ)
    | none => none
/-- the truth of a test -/
def test (G : Gd) (c : E) (ρ : Rho) : Option Bool := match ev G c ρ with
  | some (d, _) => truD d
  | none => none
section
variable (G : Gd)
mutual
def run1 : S → Rho → Option Out
  | .asg tg e, ρ => match ev G e (frzL ρ (kept e)) with
    | some (d, true) => (bindT tg d (frzL ρ (kept e))).map .nx
    | _ => none
  | .fld i k e, ρ => match ev G e (frzL ρ (kept e)) with
    | some (d, true) => match (frzL ρ (kept e))[i]? with
      | some (some (.obj (some a) c ks ds)) => match putK k (frz d) ks ds with
        | some (ks', ds') => if decide (ds.length < 1000) then some (.nx ((frzL ρ (kept e)).set i (some (.obj (some a) c ks' ds')))) else none
        | none => none
      | _ => none
    | _ => none
  | .sub i ix e, ρ => match ev G e (frzL ρ (kept e ++ peek ix)), ev G ix (frzL ρ (kept e ++ peek ix)) with
    | some (d, true), some (.int j, _) => match (frzL ρ (kept e ++ peek ix))[i]? with
      | some (some (.lst .own ds)) => if fzs ds && d.fz && decide (0 ≤ j) && decide (j < ds.length) then some (.nx ((frzL ρ (kept e ++ peek ix)).set i (some (.lst .own (ds.set j.toNat d))))) else none
      | _ => none
    | _, _ => none
  | .app i e, ρ => match ev G e (frzL ρ (kept e)) with
    | some (d, true) => match (frzL ρ (kept e))[i]? with
      | some (some (.lst .own ds)) => if decide (ds.length < most) then some (.nx ((frzL ρ (kept e)).set i (some (.lst .own (ds ++ [d]))))) else none
      | _ => none
    | _ => none
  | .app2 i ix e, ρ => match ev G ix (frzL ρ (kept e ++ peek ix)), ev G e (frzL ρ (kept e ++ peek ix)) with
    | some (.int j, _), some (d, true) => match (frzL ρ (kept e ++ peek ix))[i]? with
      | some (some (.lst .own ds)) => match ds[j.toNat]? with
        | some (.lst .own es) => if d.fz && decide (0 ≤ j) && decide (es.length < most) then some (.nx ((frzL ρ (kept e ++ peek ix)).set i (some (.lst .own (ds.set j.toNat (.lst .own (es ++ [d]))))))) else none
        | _ => none
      | _ => none
    | _, _ => none
  | .drop e, ρ => match ev G e (frzL ρ (kept e)) with
    | some _ => some (.nx (frzL ρ (kept e)))
    | none => none
  | .ite c a b, ρ => match test G c (frzL ρ (peek c)) with
    | some true => runs a (frzL ρ (peek c))
    | some false => runs b (frzL ρ (peek c))
    | none => none
  | .for_ tg it b, ρ => match evI G it (frzL ρ (keptI it)) with
    | some items => forD (bindT tg) (runs b) items (frzL ρ (keptI it))
    | none => none
  | .while_ c b, ρ => whileD (test G c) (runs b) G.wf (frzL ρ (peek c))
  | .ret e, ρ => match ev G e (frzL ρ (kept e)) with
    | some (d, true) => some (.rt d)
    | _ => none
  | .retN, _ => some (.rt .non)
  | .pass, ρ => some (.nx ρ)
  | .brk, ρ => some (.bk ρ)
  | .cont, ρ => some (.ct ρ)
  | .never, _ => none
def runs : Ss → Rho → Option Out
  | .nil, ρ => some (.nx ρ)
  | .cons s r, ρ => match run1 s ρ with
    | some (.nx ρ') => runs r ρ'
    | o => o
end
end
/-- a def: n slots, the body -/
structure Def where
  ps : Nat
  n : Nat
  body : Ss
def startR (n : Nat) (ds : List D) : Rho := ds.map some ++ List.replicate (n - ds.length) none
def runD (G : Gd) (f : Def) (ds : List D) : Option D :=
  if ds.length = f.ps then match runs G f.body (startR f.n ds) with
    | some (.nx _) => some .non
    | some (.rt d) => some d
    | _ => none
  else none
example (G : Gd) (n : Int) : runD G ⟨1, 1, .cons (.ret (.bin .Add (.con (.int 1)) (.slot 0))) .nil⟩ [.int n] = some (.int (1 + n)) := rfl
end Z

/-! Z5: what the language says of an expression is so: names, operators, subscripts, displays. -/
namespace Z
open PySem PySem.Spec PyProof.Rows L2
open Evl (Ex ex_l ex_t ex_rd)

/-! ### the weakest readings -/
section
variable (X : Cx)
def tE (e : Expr) : TE := fun σ H Q => ∀ pins s, Inv X pins σ H s → wpAny (model X.prog X.w) X.A (eval e X.env) (EP X pins σ Q) X.xe s
def tT (e : Expr) : TT := fun σ H Q => ∀ pins s, Inv X pins σ H s → wpAny (model X.prog X.w) X.A (isTrue e X.env (eval e X.env)) (TP X pins σ Q) X.xe s
def tA (es : List Expr) : TA := fun σ H Q => ∀ pos pins s, Inv X pins σ H s → wpAny (model X.prog X.w) X.A (spliced (backTo pos (starEach es X.env))) (AP X pins σ Q) X.xe s
def tS (st : Stmt) : TS := fun D σ H => ∀ pins s, Inv X pins σ H s → wpAny (model X.prog X.w) X.A (exec st X.env) (SP X pins D) X.xe s
def tSs (st : List Stmt) : TS := fun D σ H => ∀ pins s, Inv X pins σ H s → wpAny (model X.prog X.w) X.A (execs st X.env) (SP X pins D) X.xe s
def tG (tg : Expr) : L2.TG := fun v σ H Q => ∀ pins s u, Inv X pins σ H s → RelV v u → wpAny (model X.prog X.w) X.A (assign tg X.env u) (fun _ s' => ∃ σ' H', Inv X pins σ' H' s' ∧ Q σ' H') X.xe s
end
section
variable {X : Cx}
theorem pe_ (e : Expr) : PE X e (tE X e) := ⟨fun pins s _ _ _ I h => h pins s I⟩
theorem pt_ (e : Expr) : PT X e (tT X e) := ⟨fun pins s _ _ _ I h => h pins s I⟩
theorem pa_ (es : List Expr) : PA X es (tA X es) := ⟨fun pos pins s _ _ _ I h => h pos pins s I⟩
theorem ps_ (st : Stmt) : PS X st (tS X st) := ⟨fun pins s _ _ _ I h => h pins s I⟩
theorem pss_ (st : List Stmt) : PSs X st (tSs X st) := ⟨fun pins s _ _ _ I h => h pins s I⟩
theorem pg_ (tg : Expr) : PG X tg (tG X tg) := ⟨fun pins s _ _ _ _ _ I r h => h pins s _ I r⟩
theorem by_pe {e : Expr} {t : TE} {σ : L2.St} {H : Hp} {Q : VK} (p : PE X e t) (h : t σ H Q) : tE X e σ H Q := fun pins s I => p.run pins s σ H Q I h
theorem by_pt {e : Expr} {t : TT} {σ : L2.St} {H : Hp} {Q : Bool → Hp → Prop} (p : PT X e t) (h : t σ H Q) : tT X e σ H Q := fun pins s I => p.run pins s σ H Q I h
theorem by_pa {e : List Expr} {t : TA} {σ : L2.St} {H : Hp} {Q : List V → Hp → Prop} (p : PA X e t) (h : t σ H Q) : tA X e σ H Q := fun pos pins s I => p.run pos pins s σ H Q I h
theorem by_ps {e : Stmt} {t : TS} {σ : L2.St} {H : Hp} {D : Ends} (p : PS X e t) (h : t D σ H) : tS X e D σ H := fun pins s I => p.run pins s σ H D I h
theorem by_pss {e : List Stmt} {t : TS} {σ : L2.St} {H : Hp} {D : Ends} (p : PSs X e t) (h : t D σ H) : tSs X e D σ H := fun pins s I => p.run pins s σ H D I h
theorem by_pg {e : Expr} {t : L2.TG} {v : V} {σ : L2.St} {H : Hp} {Q : L2.St → Hp → Prop} (p : PG X e t) (h : t v σ H Q) : tG X e v σ H Q := fun pins s u I r => p.run pins s σ H v u Q I r h
theorem tE_mono {e : Expr} {σ : L2.St} {H : Hp} {Q Q' : VK} (h : tE X e σ H Q) (k : ∀ v H', Q v H' → Q' v H') : tE X e σ H Q' := fun pins s I =>
  thn (h pins s I) fun u s1 ⟨v, H1, I1, r, q⟩ => ⟨v, H1, I1, r, k v H1 q⟩
end

/-! ### the context -/
/-- what is fixed for a whole law -/
structure Law where
  P : Program
  w : World
  base : Heap
  mg : Str → Option Value
  T : Tab
  G : Gd
/-- a scope, and the names whose cells the block made itself -/
structure Sc extends Scope where
  fnb : Str → Bool
  /-- in an except suite: what wants no exception in hand isn't there -/
  hot : Bool := false
/-- the context X of a body: the law's, the names by slot, the scope, the room for calls -/
structure Cok (L : Law) (N : List Str) (sc : Sc) (k : Nat) (X : Cx) : Prop where
  prog : X.prog = L.P
  hw : X.w = L.w
  hbase : X.base = L.base
  hmg : X.mg = L.mg
  hK : X.K = L.T.K
  hN : X.N = N
  hsc : X.env.scope = sc.toScope
  fn : ∀ x, sc.fnb x = true → X.fn x = true
  nd : N.Nodup
  calm : sc.hot = false → X.calm = true
  room : Room k X.A
  xe : X.xe = fun _ _ => False
theorem Cok.units {L : Law} {N : List Str} {sc : Sc} {k : Nat} {X : Cx} (c : Cok L N sc k X) : X.A.units + 64 < cLine := c.room.units

/-- what behind a value is known -/
def Post (T : Tab) (Hf H : Hp) (d : D) (fr : Bool) (Q : VK) : Prop := ∀ v H' Hf' F, Gr Hf H Hf' H' → rep T Hf' H' d v F → (fr = true → New H Hf' F) → Q v H'
def SemE (L : Law) (N : List Str) (sc : Sc) (k : Nat) (e : Expr) (e' : E) : Prop :=
  ∀ X, Cok L N sc k X → ∀ ρ d fr, ev L.G e' ρ = some (d, fr) → ∀ Hf0 H0 Hf H σ, StOk L.T Hf0 H0 Hf H ρ σ → ∀ Q : VK, Post L.T Hf H d fr Q → tE X e σ H Q
def PostA (T : Tab) (Hf H : Hp) (ds : List D) (fr : Bool) (Q : List V → Hp → Prop) : Prop := ∀ vs H' Hf' F, Gr Hf H Hf' H' → repS T Hf' H' ds vs F → (fr = true → New H Hf' F) → Q vs H'
def SemA (L : Law) (N : List Str) (sc : Sc) (k : Nat) (es : List Expr) (es' : Es) : Prop :=
  ∀ X, Cok L N sc k X → ∀ ρ ds fr, evs L.G es' ρ = some (ds, fr) → ∀ Hf0 H0 Hf H σ, StOk L.T Hf0 H0 Hf H ρ σ → ∀ Q, PostA L.T Hf H ds fr Q → tA X es σ H Q

section
variable {T : Tab} {Hf H Hf' H' : Hp}
theorem Gr.sub' {Hf0 H0 : Hp} {ρ : Rho} {σ : L2.St} (S : StOk T Hf0 H0 Hf H ρ σ) : Gr Hf H Hf H := Gr.refl S.sub
theorem rep_flat {d : D} (h : d.flat = true) : rep T Hf H d d.v [] := by
  cases d <;> first | exact ⟨rfl, rfl⟩ | cases h
/-- a flat answer at once -/
theorem Post.flat {d : D} {fr : Bool} {Q : VK} (p : Post T Hf H d fr Q) (g : Gr Hf H Hf' H') (h : d.flat = true) : Q d.v H' := p _ _ _ [] g (rep_flat h) fun _ => New.nil
theorem New.upd {p : Addr} (hp : H p = none) {Hf : Hp} (hf : Hf p = none) : New H Hf [p] := ⟨List.nodup_cons.mpr ⟨by simp, List.nodup_nil⟩, fun a h => by
  cases List.mem_singleton.mp h; exact hp, fun a h => by cases List.mem_singleton.mp h; exact hf⟩
/-- a new owned thing at p -/
theorem Gr.push {p : Addr} {o : HO} (s : Ex Hf H) (hp : H p = none) : Gr Hf H Hf (upd H p o) :=
  ⟨Evl.Ex.new hp, fun _ _ q => q, fun a u q => by rw [upd_ne (ne_of_none (s a u q) hp)]; exact s a u q, fun _ _ q => .inl q⟩
/-- a new frozen thing at p -/
theorem Gr.pushF {p : Addr} {o : HO} (s : Ex Hf H) (hp : H p = none) : Gr Hf H (upd Hf p o) (upd H p o) :=
  ⟨Evl.Ex.new hp, Evl.Ex.new (none_back s hp), fun a u q => by
    by_cases h : a = p
    · subst h; rw [upd_same] at q ⊢; exact q
    · rw [upd_ne h] at q ⊢; exact s a u q, fun a u q => by
    by_cases h : a = p
    · subst h; exact .inr hp
    · rw [upd_ne h] at q; exact .inl q⟩
theorem hf_none (s : Ex Hf H) {p : Addr} (hp : H p = none) : Hf p = none := none_back s hp
/-- how a list, a tuple is read -/
theorem rep_lst {m : M} {ds : List D} {v : V} {F : List Addr} (s : Ex Hf H) (h : rep T Hf H (.lst m ds) v F) : ∃ a xs G, v = .ref a ∧ SqL T.K H a xs ∧ repS T Hf H ds xs G := by
  cases m with
  | own => obtain ⟨a, xs, G, e, f, q, r⟩ := h; exact ⟨a, xs, G, e, .of q, r⟩
  | fz => obtain ⟨a, xs, e, f, q, r⟩ := h; exact ⟨a, xs, _, e, .inl (ex_rd s q), r⟩
  | ro => obtain ⟨a, xs, e, f, q, r⟩ := h; exact ⟨a, xs, _, e, ex_l s q, r⟩
theorem rep_rd {m : M} {ds : List D} {v : V} {F : List Addr} (s : Ex Hf H) (h : rep T Hf H (.lst m ds) v F) (hm : m ≠ .ro) : ∃ a xs G, v = .ref a ∧ Rd H a (.lst xs) ∧ repS T Hf H ds xs G := by
  cases m with
  | own => obtain ⟨a, xs, G, e, f, q, r⟩ := h; exact ⟨a, xs, G, e, .of q, r⟩
  | fz => obtain ⟨a, xs, e, f, q, r⟩ := h; exact ⟨a, xs, _, e, ex_rd s q, r⟩
  | ro => exact absurd rfl hm
theorem rep_tup {ds : List D} {v : V} {F : List Addr} (s : Ex Hf H) (h : rep T Hf H (.tup ds) v F) : ∃ a xs, v = .ref a ∧ SqT T.K H a xs ∧ repS T Hf H ds xs [] := by
  obtain ⟨a, xs, e, f, q, r⟩ := h; exact ⟨a, xs, e, ex_t s q, r⟩
theorem rep_seq {x : D} {ds : List D} {v : V} {F : List Addr} (s : Ex Hf H) (h : rep T Hf H x v F) (e : seqD x = some ds) : ∃ a xs G, v = .ref a ∧ (SqL T.K H a xs ∨ SqT T.K H a xs) ∧ repS T Hf H ds xs G := by
  cases x with
  | lst m es => cases e; obtain ⟨a, xs, G, e1, q, r⟩ := rep_lst s h; exact ⟨a, xs, G, e1, .inl q, r⟩
  | tup es => cases e; obtain ⟨a, xs, e1, q, r⟩ := rep_tup s h; exact ⟨a, xs, _, e1, .inr q, r⟩
  | _ => cases e
theorem repS_fz {ds : List D} {xs : List V} {F : List Addr} (h : repS T Hf H ds xs F) (z : fzs ds = true) : repS T Hf H ds xs [] := by
  have e := fzs_nil h z
  subst e
  exact h
theorem size_ok {n : Nat} (h : n ≤ most) : n ≤ sizeLine := Evl.sz_of h
end

section
variable {L : Law} {N : List Str} {sc : Sc} {k : Nat}
/-! ### names, constants -/
theorem sem_slot {i : Nat} {x : Str} {pos : Pos} (hN : N[i]? = some x) (hv : Vis sc.toScope x) (hd : (x == ("__debug__" : Str)) = false) (hcd : (x == ("__classdict__" : Str)) = false) : SemE L N sc k (.Name x pos) (.slot i) := by
  intro X c ρ d fr h Hf0 H0 Hf H σ S Q p
  simp only [ev] at h
  split at h
  · rename_i d' hd'
    cases h
    obtain ⟨F, r, n⟩ := S.own
    obtain ⟨v, G, A, C, h1, h2, h3⟩ := repE_get r hd'
    refine by_pe (pe_var (i := i) (by rw [c.hN]; exact hN) (by rw [c.hsc]; exact hv) hd hcd) ⟨v, h1, p v H Hf G (.refl S.sub) h2 fun z => ?_⟩
    rw [fz_nil h2 z]
    exact New.nil
  · cases h
theorem sem_int {i : Int} {j : Nat} {pos : Pos} : SemE L N sc k (.Constant (.int i) j pos) (.con (.int i)) := by
  intro X c ρ d fr h Hf0 H0 Hf H σ S Q p
  cases h
  exact by_pe pe_int (p.flat (.refl S.sub) rfl)
theorem sem_bl {b : Bool} {j : Nat} {pos : Pos} : SemE L N sc k (.Constant (.bool b) j pos) (.con (.bl b)) := by
  intro X c ρ d fr h Hf0 H0 Hf H σ S Q p
  cases h
  exact by_pe pe_bl (p.flat (.refl S.sub) rfl)
theorem sem_non {j : Nat} {pos : Pos} : SemE L N sc k (.Constant .none j pos) (.con .non) := by
  intro X c ρ d fr h Hf0 H0 Hf H σ S Q p
  cases h
  exact by_pe pe_non (p.flat (.refl S.sub) rfl)
theorem sem_str {x : Str} {j : Nat} {pos : Pos} : SemE L N sc k (.Constant (.str x) j pos) (.con (.str x)) := by
  intro X c ρ d fr h Hf0 H0 Hf H σ S Q p
  cases h
  exact by_pe pe_str (p.flat (.refl S.sub) rfl)

/-! ### two values -/
/-- an operator that does on trees what f says -/
def OpT (L : Law) (k : Nat) (f : Value → Value → Sem Value) (g : D → D → Option D) : Prop := ∀ X N sc, Cok L N sc k X → ∀ (pins : List (Addr × Obj)) (s : Shared) (σ : L2.St) (Hf H : Hp) (x y : V) (v u : Value) (d1 d2 d : D) (F1 F2 : List Addr) (Q : VK),
  Inv X pins σ H s → RelV x v → RelV y u → Ex Hf H → rep L.T Hf H d1 x F1 → rep L.T Hf H d2 y F2 → g d1 d2 = some d → Post L.T Hf H d true Q → wpAny (model X.prog X.w) X.A (f v u) (EP X pins σ Q) X.xe s
theorem two {a b : Expr} {a' b' : E} (ha : SemE L N sc k a a') (hb : SemE L N sc k b b') {X : Cx} (c : Cok L N sc k X) {ρ : Rho} {x y : D} {f1 f2 : Bool} (h1 : ev L.G a' ρ = some (x, f1)) (h2 : ev L.G b' ρ = some (y, f2))
    {Hf0 H0 Hf H : Hp} {σ : L2.St} (S : StOk L.T Hf0 H0 Hf H ρ σ) {R : V → V → Hp → Prop}
    (q : ∀ v u H' Hf' F1 F2, Gr Hf H Hf' H' → rep L.T Hf' H' x v F1 → rep L.T Hf' H' y u F2 → R v u H') : tE X a σ H fun v H1 => tE X b σ H1 fun u H2 => R v u H2 :=
  ha X c ρ x f1 h1 Hf0 H0 Hf H σ S _ fun v H1 Hf1 F1 g1 r1 n1 => hb X c ρ y f2 h2 Hf0 H0 Hf1 H1 σ (S.grow g1) _ fun u H2 Hf2 F2 g2 r2 n2 =>
    q v u H2 Hf2 F1 F2 (g1.trans g2) (rep_mono g2.f _ _ _ (fun a _ o z => g2.e a o z) r1) r2
theorem OpT.r {f : Value → Value → Sem Value} {g : D → D → Option D} (o : OpT L k f g) {X : Cx} (c : Cok L N sc k X) :
    OpR X f fun x y H Q => ∃ Hf d1 d2 d F1 F2, Ex Hf H ∧ rep L.T Hf H d1 x F1 ∧ rep L.T Hf H d2 y F2 ∧ g d1 d2 = some d ∧ Post L.T Hf H d true Q := by
  intro pins s σ H x y v u Q I rx ry ⟨Hf, d1, d2, d, F1, F2, e, r1, r2, hg, p⟩
  exact o X N sc c pins s σ Hf H x y v u d1 d2 d F1 F2 Q I rx ry e r1 r2 hg p
theorem post_grow {Hf H Hf' H' : Hp} {d : D} {fr : Bool} {Q : VK} {T : Tab} (p : Post T Hf H d fr Q) (g : Gr Hf H Hf' H') (n : fr = true → ∀ F Hf2, New H' Hf2 F → New H Hf2 F) : Post T Hf' H' d fr Q :=
  fun v H2 Hf2 F g2 r m => p v H2 Hf2 F (g.trans g2) r fun z => n z F Hf2 (m z)
theorem New.back {H H' Hf : Hp} {F : List Addr} (e : Ex H H') (n : New H' Hf F) : New H Hf F := ⟨n.nd, fun a h => none_back e (n.h a h), n.f⟩
theorem Post.grow {Hf H Hf' H' : Hp} {d : D} {fr : Bool} {Q : VK} {T : Tab} (p : Post T Hf H d fr Q) (g : Gr Hf H Hf' H') : Post T Hf' H' d fr Q := post_grow p g fun _ F Hf2 n => n.back g.e
theorem sem_bin {a b : Expr} {a' b' : E} {op : Operator} {pos : Pos} (o : OpT L k (binaryOp op) (binG L.G op)) (ha : SemE L N sc k a a') (hb : SemE L N sc k b b') : SemE L N sc k (.BinOp a op b pos) (.bin op a' b') := by
  intro X c ρ d fr h Hf0 H0 Hf H σ S Q p
  simp only [ev] at h
  split at h
  · rename_i x f1 y f2 e1 e2
    cases hd : binG L.G op x y with
    | none => rw [hd] at h; cases h
    | some d' =>
      rw [hd] at h
      cases h
      exact by_pe (pe_op (o.r c) (pe_ a) (pe_ b)) (two ha hb c e1 e2 S fun v u H' Hf' F1 F2 g r1 r2 => ⟨Hf', x, y, _, F1, F2, g.s, r1, r2, hd, p.grow g⟩)
  · cases h
/-- a comparison of trees -/
def cmpB (op : CmpOp) (x y : D) : Option D := (cmpD op x y).map .bl
def cmpBG (G : Gd) (op : CmpOp) (x y : D) : Option D := (cmpG G op x y).map .bl
theorem sem_cmp {a b : Expr} {a' b' : E} {op : CmpOp} {pos : Pos} (o : OpT L k (compareOp op) (cmpBG L.G op)) (hm : behindInMarks op b = false) (ha : SemE L N sc k a a') (hb : SemE L N sc k b b') : SemE L N sc k (.Compare a [op] [b] pos) (.cmp op a' b') := by
  intro X c ρ d fr h Hf0 H0 Hf H σ S Q p
  simp only [ev] at h
  split at h
  · rename_i x f1 y f2 e1 e2
    cases hd : cmpG L.G op x y with
    | none => rw [hd] at h; cases h
    | some d' =>
      rw [hd] at h
      cases h
      exact by_pe (pe_cmpR (o.r c) (pe_ a) (pe_ b) hm) (two ha hb c e1 e2 S fun v u H' Hf' F1 F2 g r1 r2 => ⟨Hf', x, y, _, F1, F2, g.s, r1, r2, by unfold cmpBG; rw [hd]; rfl, p.grow g⟩)
  · cases h
theorem rep_bl {T : Tab} {Hf H : Hp} {b : Bool} {v : V} {F : List Addr} (h : rep T Hf H (.bl b) v F) : v = .bl b := h.1
theorem sem_chain {a b e : Expr} {a' b' e' : E} {op op' : CmpOp} {pos : Pos} (o : OpT L k (compareOp op) (cmpB op)) (o' : OpT L k (compareOp op') (cmpB op')) (hm : lastMarks [op, op'] [b, e] = false) (ha : SemE L N sc k a a') (hb : SemE L N sc k b b') (hc : SemE L N sc k e e') :
    SemE L N sc k (.Compare a [op, op'] [b, e] pos) (.chain op op' a' b' e') := by
  intro X c ρ d fr h Hf0 H0 Hf H σ S Q p
  simp only [ev] at h
  split at h
  · rename_i x f1 y f2 e1 e2
    refine by_pe (pe_chain (o.r c) (o'.r c) (pe_ a) (pe_ b) (pe_ e) hm) (two ha hb c e1 e2 S fun v u H' Hf' F1 F2 g r1 r2 => ?_)
    split at h
    · rename_i hd
      split at h
      · rename_i z f3 e3
        cases hd2 : cmpD op' y z with
        | none => rw [hd2] at h; cases h
        | some k2 =>
          rw [hd2] at h
          cases h
          refine ⟨Hf', x, y, .bl true, F1, F2, g.s, r1, r2, by unfold cmpB; rw [hd]; rfl, fun v1 H1 Hf1 F3 g1 r3 _ => ⟨true, rep_bl r3, ?_⟩⟩
          rw [if_pos rfl]
          exact hc X c ρ z f3 e3 Hf0 H0 Hf1 H1 σ ((S.grow g).grow g1) _ fun w H2 Hf2 F4 g2 r4 _ =>
            ⟨Hf2, y, z, _, F2, F4, g2.s, rep_mono (g1.trans g2).f _ _ _ (fun a _ o q => (g1.trans g2).e a o q) r2, r4, by unfold cmpB; rw [hd2]; rfl, (p.grow g).grow (g1.trans g2)⟩
      · cases h
    · rename_i hd
      cases h
      refine ⟨Hf', x, y, .bl false, F1, F2, g.s, r1, r2, by unfold cmpB; rw [hd]; rfl, fun v1 H1 Hf1 F3 g1 r3 _ => ⟨false, rep_bl r3, ?_⟩⟩
      rw [if_neg Bool.false_ne_true]
      exact p.flat (g.trans g1) rfl
    · cases h
  · cases h
theorem sem_un {a : Expr} {a' : E} {op : UnaryOp} {pos : Pos} (hop : op = .USub ∨ op = .Invert) (ha : SemE L N sc k a a') : SemE L N sc k (.UnaryOp op a pos) (.un op a') := by
  intro X c ρ d fr h Hf0 H0 Hf H σ S Q p
  simp only [ev] at h
  split at h
  · rename_i x f1 e1
    cases hd : unD op x with
    | none => rw [hd] at h; cases h
    | some d' =>
      rw [hd] at h
      cases h
      unfold unD at hd
      split at hd
      · cases hd
        exact by_pe (pe_un un_neg (pe_ a)) (ha X c ρ _ _ e1 Hf0 H0 Hf H σ S _ fun v H1 Hf1 F1 g1 r1 _ => ⟨_, r1.1, p.flat g1 rfl⟩)
      · cases hd
        exact by_pe (pe_un un_inv (pe_ a)) (ha X c ρ _ _ e1 Hf0 H0 Hf H σ S _ fun v H1 Hf1 F1 g1 r1 _ => ⟨_, r1.1, p.flat g1 rfl⟩)
      · cases hd
  · cases h

/-! ### and, or, not, if else -/
theorem sem_and {a b : Expr} {r : List Expr} {a' b' : E} {pos : Pos} (ha : SemE L N sc k a a') (hb : SemE L N sc k (.BoolOp .And (b :: r) pos) b') : SemE L N sc k (.BoolOp .And (a :: b :: r) pos) (.and a' b') := by
  intro X c ρ d fr h Hf0 H0 Hf H σ S Q p
  simp only [ev] at h
  split at h
  · rename_i f1 e1
    split at h
    · rename_i b1 f2 e2
      cases h
      exact by_pe (pe_and (pe_ a) (pe_ _)) (ha X c ρ _ _ e1 Hf0 H0 Hf H σ S _ fun v H1 Hf1 F1 g1 r1 _ => ⟨true, rep_bl r1, by
        rw [if_pos rfl]
        exact hb X c ρ _ _ e2 Hf0 H0 Hf1 H1 σ (S.grow g1) _ fun v2 H2 Hf2 F2 g2 r2 _ => p v2 H2 Hf2 F2 (g1.trans g2) r2 fun _ => by rw [r2.2]; exact New.nil⟩)
    · cases h
  · rename_i f1 e1
    cases h
    exact by_pe (pe_and (pe_ a) (pe_ _)) (ha X c ρ _ _ e1 Hf0 H0 Hf H σ S _ fun v H1 Hf1 F1 g1 r1 _ => ⟨false, rep_bl r1, by
      rw [if_neg Bool.false_ne_true]
      exact p.flat g1 rfl⟩)
  · cases h
theorem sem_or {a b : Expr} {r : List Expr} {a' b' : E} {pos : Pos} (ha : SemE L N sc k a a') (hb : SemE L N sc k (.BoolOp .Or (b :: r) pos) b') : SemE L N sc k (.BoolOp .Or (a :: b :: r) pos) (.or a' b') := by
  intro X c ρ d fr h Hf0 H0 Hf H σ S Q p
  simp only [ev] at h
  split at h
  · rename_i f1 e1
    split at h
    · rename_i b1 f2 e2
      cases h
      exact by_pe (pe_or (pe_ a) (pe_ _)) (ha X c ρ _ _ e1 Hf0 H0 Hf H σ S _ fun v H1 Hf1 F1 g1 r1 _ => ⟨false, rep_bl r1, by
        rw [if_neg Bool.false_ne_true]
        exact hb X c ρ _ _ e2 Hf0 H0 Hf1 H1 σ (S.grow g1) _ fun v2 H2 Hf2 F2 g2 r2 _ => p v2 H2 Hf2 F2 (g1.trans g2) r2 fun _ => by rw [r2.2]; exact New.nil⟩)
    · cases h
  · rename_i f1 e1
    cases h
    exact by_pe (pe_or (pe_ a) (pe_ _)) (ha X c ρ _ _ e1 Hf0 H0 Hf H σ S _ fun v H1 Hf1 F1 g1 r1 _ => ⟨true, rep_bl r1, by
      rw [if_pos rfl]
      exact p.flat g1 rfl⟩)
  · cases h
theorem sem_one {a : Expr} {a' : E} {op : BoolOp} {pos : Pos} (ha : SemE L N sc k a a') : SemE L N sc k (.BoolOp op [a] pos) a' :=
  fun X c ρ d fr h Hf0 H0 Hf H σ S Q p => by_pe (pe_one (pe_ a)) (ha X c ρ d fr h Hf0 H0 Hf H σ S Q p)
theorem sem_not {a : Expr} {a' : E} {pos : Pos} (ha : SemE L N sc k a a') : SemE L N sc k (.UnaryOp .Not a pos) (.not a') := by
  intro X c ρ d fr h Hf0 H0 Hf H σ S Q p
  simp only [ev] at h
  split at h
  · rename_i b f1 e1
    cases h
    exact by_pe (pe_not (pe_ a)) (ha X c ρ _ _ e1 Hf0 H0 Hf H σ S _ fun v H1 Hf1 F1 g1 r1 _ => ⟨b, rep_bl r1, p.flat g1 rfl⟩)
  · cases h
end
end Z

/-! Z6: operators on trees, tests, subscripts, slices, displays. -/
namespace Z
open PySem PySem.Spec PyProof.Rows L2
open Evl (Ex ex_l ex_t ex_rd)

section
variable {L : Law} {N : List Str} {sc : Sc} {k : Nat}
theorem Post.ret {T : Tab} {Hf H Hf' H' : Hp} {d : D} {fr : Bool} {Q : VK} {v : V} {F : List Addr} (p : Post T Hf H d fr Q) (g : Gr Hf H Hf' H') (r : rep T Hf' H' d v F) (n : fr = true → New H Hf' F) : Q v H' := p v H' Hf' F g r n
/-- a new owned list of frozen things -/
theorem Post.newL {T : Tab} {Hf H : Hp} {ds : List D} {fr : Bool} {Q : VK} {xs : List V} (p : Post T Hf H (.lst .own ds) fr Q) (s : Ex Hf H) (r : repS T Hf H ds xs []) : ∀ a, H a = none → Q (.ref a) (upd H a (.lst xs)) := fun a ha =>
  p (.ref a) _ Hf [a] (.push s ha) ⟨a, xs, [], rfl, rfl, upd_same, repS_mono (fun _ _ q => q) _ _ _ (fun _ hb => by cases hb) r⟩ fun _ => New.upd ha (hf_none s ha)
/-- a new frozen tuple -/
theorem Post.newT {T : Tab} {Hf H : Hp} {ds : List D} {fr : Bool} {Q : VK} {xs : List V} (p : Post T Hf H (.tup ds) fr Q) (s : Ex Hf H) (r : repS T Hf H ds xs []) : ∀ a, H a = none → Q (.ref a) (upd H a (.tup xs)) := fun a ha =>
  p (.ref a) _ (upd Hf a (.tup xs)) [] (.pushF s ha) ⟨a, xs, rfl, rfl, .of upd_same, repS_mono (Evl.Ex.new (hf_none s ha)) _ _ _ (fun _ hb => by cases hb) r⟩ fun _ => New.nil
theorem repS_rep {T : Tab} {Hf H : Hp} {ds : List D} {xs : List V} (h : repS T Hf H ds xs []) : ∀ n : Nat, repS T Hf H ((List.replicate n ds).flatten) ((List.replicate n xs).flatten) []
  | 0 => ⟨rfl, rfl⟩
  | n + 1 => by
    rw [List.replicate_succ, List.replicate_succ, List.flatten_cons, List.flatten_cons]
    exact repS_append h (repS_rep h n)
theorem mulOk_c {i j : Int} (h : mulOk i j = true) : CMul i j := by
  unfold mulOk at h
  unfold CMul
  simp only [Bool.or_eq_true, Bool.and_eq_true, decide_eq_true_eq] at h
  exact h
theorem shOk_c {i j : Int} (h : shOk i j = true) : CPow i j := by
  unfold shOk at h
  unfold CPow
  simp only [Bool.and_eq_true, decide_eq_true_eq] at h
  exact ⟨h.1.1, h.1.2, h.2⟩
/-- an operator of two ints -/
theorem of_rI0 {f : Value → Value → Sem Value} {g : Int → Int → V} {L : Law} {N : List Str} {sc : Sc} {k : Nat} {X : Cx} (o : OpR X f (rI0 g)) {pins : List (Addr × Obj)} {s : Shared} {σ : L2.St} {Hf H : Hp} {x y : V} {v u : Value} {i j : Int} {d : D} {F1 F2 : List Addr} {Q : VK}
    (I : Inv X pins σ H s) (rx : RelV x v) (ry : RelV y u) (e : Ex Hf H) (r1 : rep L.T Hf H (.int i) x F1) (r2 : rep L.T Hf H (.int j) y F2) (p : Post L.T Hf H d true Q) (hd : d.flat = true) (hv : d.v = g i j) : wpAny (model X.prog X.w) X.A (f v u) (EP X pins σ Q) X.xe s := by
  obtain ⟨rfl, _⟩ := r1
  obtain ⟨rfl, _⟩ := r2
  exact o pins s σ H _ _ v u Q I rx ry ⟨i, j, rfl, rfl, hv ▸ p.flat (.refl e) hd⟩
theorem of_rI {f : Value → Value → Sem Value} {C : Int → Int → Prop} {g : Int → Int → V} {L : Law} {X : Cx} (o : OpR X f (rI C g)) {pins : List (Addr × Obj)} {s : Shared} {σ : L2.St} {Hf H : Hp} {x y : V} {v u : Value} {i j : Int} {d : D} {F1 F2 : List Addr} {Q : VK}
    (I : Inv X pins σ H s) (rx : RelV x v) (ry : RelV y u) (e : Ex Hf H) (r1 : rep L.T Hf H (.int i) x F1) (r2 : rep L.T Hf H (.int j) y F2) (p : Post L.T Hf H d true Q) (hd : d.flat = true) (hv : d.v = g i j) (hc : C i j) : wpAny (model X.prog X.w) X.A (f v u) (EP X pins σ Q) X.xe s := by
  obtain ⟨rfl, _⟩ := r1
  obtain ⟨rfl, _⟩ := r2
  exact o pins s σ H _ _ v u Q I rx ry ⟨i, j, rfl, rfl, hc, hv ▸ p.flat (.refl e) hd⟩
/-- list + list, where they may be known objects -/
def rCatR : R2 := fun x y H Q => ∃ l b xs zs, x = .ref l ∧ y = .ref b ∧ Rd H l (.lst xs) ∧ Rd H b (.lst zs) ∧ xs.length + zs.length ≤ sizeLine ∧ ∀ p, H p = none → Q (.ref p) (upd H p (.lst (xs ++ zs)))
theorem op_catR {X : Cx} : OpR X (binaryOp .Add) rCatR := by
  intro pins s σ H x y v u Q I rx ry h
  obtain ⟨l, b, xs, zs, rfl, rfl, hH, hB, hz, q⟩ := h
  cases rx
  cases ry
  obtain ⟨z, its, n, r, e⟩ : ObjOk X.prog X.w H s.heap l (.lst xs) := hH.ok I.hok
  obtain ⟨z2, its2, n2, r2, e2⟩ : ObjOk X.prog X.w H s.heap b (.lst zs) := hB.ok I.hok
  have hl := r.length
  have hl2 := r2.length
  refine PySem.P.add_list e e2 ?_ (by rw [List.size_toArray, List.size_toArray]; omega)
  have ea : its.toArray ++ its2.toArray = (its ++ its2).toArray := by simp
  rw [ea]
  exact ⟨.ref _, _, I.lnew (t' := s.toks) (r.append r2) (by rw [List.length_append]; omega), rfl, q _ I.fresh⟩
theorem opT_bin (op : Operator) : OpT L k (binaryOp op) (binD op) := by
  intro X N sc c pins s σ Hf H x y v u d1 d2 d F1 F2 Q I rx ry e r1 r2 hd p
  unfold binD at hd
  split at hd
  · cases hd; exact of_rI0 (N := N) (sc := sc) (k := k) op_add I rx ry e r1 r2 p rfl rfl
  · cases hd; exact of_rI0 (N := N) (sc := sc) (k := k) op_sub I rx ry e r1 r2 p rfl rfl
  · split at hd
    · rename_i hc; cases hd
      rw [Bool.or_eq_true] at hc
      rcases hc with hc | hc
      · exact of_rI op_mul I rx ry e r1 r2 p rfl rfl (mulOk_c hc)
      · exact of_rI op_mulW I rx ry e r1 r2 p rfl rfl (by have := of_decide_eq_true hc; exact this)
    · cases hd
  · split at hd
    · rename_i hc; cases hd
      simp only [Bool.and_eq_true, Bool.or_eq_true, decide_eq_true_eq] at hc
      obtain ⟨h0, hc | hc⟩ := hc
      · exact of_rI op_fdiv I rx ry e r1 r2 p rfl rfl ⟨h0, hc⟩
      · exact of_rI op_fdivW I rx ry e r1 r2 p rfl rfl ⟨h0, hc⟩
    · cases hd
  · split at hd
    · rename_i hc; cases hd; exact of_rI op_mod I rx ry e r1 r2 p rfl rfl (of_decide_eq_true hc)
    · cases hd
  · split at hd
    · rename_i hc; cases hd; exact of_rI op_pow I rx ry e r1 r2 p rfl rfl (shOk_c hc)
    · cases hd
  · split at hd
    · rename_i hc; cases hd; exact of_rI op_shl I rx ry e r1 r2 p rfl rfl (shOk_c hc)
    · cases hd
  · split at hd
    · rename_i hc; cases hd; exact of_rI op_shr I rx ry e r1 r2 p rfl rfl (of_decide_eq_true hc)
    · cases hd
  · cases hd; exact of_rI0 (N := N) (sc := sc) (k := k) op_and I rx ry e r1 r2 p rfl rfl
  · cases hd; exact of_rI0 (N := N) (sc := sc) (k := k) op_or I rx ry e r1 r2 p rfl rfl
  · cases hd; exact of_rI0 (N := N) (sc := sc) (k := k) op_xor I rx ry e r1 r2 p rfl rfl
  · split at hd
    · rename_i hc; cases hd
      simp only [Bool.and_eq_true, decide_eq_true_eq] at hc
      obtain ⟨⟨⟨⟨h1, h2⟩, h3⟩, h5⟩, h4⟩ := hc
      obtain ⟨a, xs, G1, rfl, q1, s1⟩ := rep_rd e r1 h1
      obtain ⟨b, ys, G2, rfl, q2, s2⟩ := rep_rd e r2 h2
      have l1 := repS_len s1
      have l2 := repS_len s2
      refine op_catR pins s σ H _ _ v u Q I rx ry ⟨a, b, xs, ys, rfl, rfl, q1, q2, size_ok (by rw [l1, l2]; exact h4), p.newL e ?_⟩
      have := repS_append (repS_fz s1 h3) (repS_fz s2 h5)
      exact this
    · cases hd
  · split at hd
    · rename_i hc; cases hd
      simp only [Bool.and_eq_true, decide_eq_true_eq] at hc
      obtain ⟨⟨⟨h1, h2⟩, h3⟩, h4⟩ := hc
      obtain ⟨a, xs, G1, rfl, f, q1, s1⟩ := r1
      obtain ⟨rfl, _⟩ := r2
      have l1 := repS_len s1
      have h5 : (most : Int) < 2 ^ 63 := by decide
      refine op_rep pins s σ H _ _ v u Q I rx ry ⟨a, _, xs, rfl, rfl, q1, by omega, by omega, size_ok (by rw [l1]; exact h4), p.newL e ?_⟩
      exact repS_rep (repS_fz s1 h1) _
    · cases hd
  · cases hd

end
section
variable {T : Tab} {Hf H : Hp}
mutual
theorem rep_dp (s : Ex Hf H) : ∀ (d : D) (v : V) (F : List Addr) (p : PyData), rep T Hf H d v F → toPy d = some p → Dp T.K H v p
  | .non, _, _, _, h, e => by cases e; rw [h.1]; exact .non
  | .bl _, _, _, _, h, e => by cases e; rw [h.1]; exact .bl _
  | .int _, _, _, _, h, e => by cases e; rw [h.1]; exact .int _
  | .str _, _, _, _, h, e => by cases e; rw [h.1]; exact .str _
  | .lst m ds, v, F, p, h, e => by
    cases hp : toPyS ds with
    | none => simp [toPy, hp] at e
    | some ps =>
      simp [toPy, hp] at e
      subst e
      obtain ⟨a, xs, G, e1, q, r⟩ := rep_lst s h
      subst e1
      exact .lst q (repS_dp s ds xs G ps r hp)
  | .tup ds, v, F, p, h, e => by
    cases hp : toPyS ds with
    | none => simp [toPy, hp] at e
    | some ps =>
      simp [toPy, hp] at e
      subst e
      obtain ⟨a, xs, e1, q, r⟩ := rep_tup s h
      subst e1
      exact .tup q (repS_dp s ds xs [] ps r hp)
  | .obj _ _ _ _, _, _, _, _, e => by cases e
theorem repS_dp (s : Ex Hf H) : ∀ (ds : List D) (xs : List V) (F : List Addr) (ps : List PyData), repS T Hf H ds xs F → toPyS ds = some ps → DpAll T.K H xs ps
  | [], _, _, _, h, e => by cases e; rw [h.1]; exact .nil
  | d :: ds, _, _, ps, ⟨v, vs, F1, F2, e1, f, r, q⟩, e => by
    subst e1
    cases hp : toPy d with
    | none => simp [toPyS, hp] at e
    | some p =>
      cases hq : toPyS ds with
      | none => simp [toPyS, hp, hq] at e
      | some qs =>
        simp [toPyS, hp, hq] at e
        subst e
        exact .cons (rep_dp s d v F1 p r hp) (repS_dp s ds vs F2 qs q hq)
end
end

section
variable {L : Law} {N : List Str} {sc : Sc} {k : Nat}
theorem rep_isN {T : Tab} {Hf H : Hp} {d : D} {v : V} {F : List Addr} (h : rep T Hf H d v F) : decide (v = .non) = d.isN := by
  cases d with
  | non => rw [h.1]; rfl
  | bl b => rw [h.1]; rfl
  | int i => rw [h.1]; rfl
  | str x => rw [h.1]; rfl
  | lst m ds => cases m with
    | own => obtain ⟨a, xs, G, e, _⟩ := h; rw [e]; rfl
    | fz => obtain ⟨a, xs, e, _⟩ := h; rw [e]; rfl
    | ro => obtain ⟨a, xs, e, _⟩ := h; rw [e]; rfl
  | tup ds => obtain ⟨a, xs, e, _⟩ := h; rw [e]; rfl
  | obj m c ks ds => cases m with
    | some _ => obtain ⟨a, xs, G, e, _⟩ := h; rw [e]; rfl
    | none => obtain ⟨a, xs, G, e, _⟩ := h; rw [e]; rfl
theorem rep_v {T : Tab} {Hf H : Hp} {d : D} {v : V} {F : List Addr} (h : rep T Hf H d v F) (f : d.flat = true) : v = d.v := by
  cases d <;> first | exact h.1 | cases f
theorem flat_v {d : D} (f : d.flat = true) : flatV d.v = true := by
  cases d <;> first | rfl | cases f
theorem repS_v {T : Tab} {Hf H : Hp} : ∀ {ds : List D} {xs : List V} {F : List Addr}, repS T Hf H ds xs F → ds.all D.flat = true → xs = ds.map D.v ∧ xs.all flatV = true
  | [], _, _, h, _ => by rw [h.1]; exact ⟨rfl, rfl⟩
  | d :: ds, _, _, ⟨v, vs, F1, F2, e, f, r, q⟩, z => by
    subst e
    rw [List.all_cons, Bool.and_eq_true] at z
    obtain ⟨e1, e2⟩ := repS_v q z.2
    have e3 := rep_v r z.1
    subst e3
    subst e1
    exact ⟨rfl, by rw [List.all_cons, Bool.and_eq_true]; exact ⟨flat_v z.1, e2⟩⟩
theorem eqD_inv {x y : D} {b : Bool} (h : eqD x y = some b) : ∃ p q, toPy x = some p ∧ toPy y = some q ∧ SeqAt.shaped p = true ∧ SeqAt.shaped q = true ∧ PyData.eqv p q = b := by
  unfold eqD at h
  split at h
  · rename_i p q h1 h2
    split at h
    · rename_i hs
      rw [Bool.and_eq_true] at hs
      cases h
      exact ⟨p, q, h1, h2, hs.1, hs.2, rfl⟩
    · cases h
  · cases h
/-- what inD says, by the two kinds -/
theorem inD_inv {x y : D} {b : Bool} (h : inD x y = some b) : (∃ ds, y = .tup ds ∧ x.flat = true ∧ ds.all D.flat = true ∧ (ds.any fun z => eqV z.v x.v) = b) ∨
    ∃ m ds p ps, y = .lst m ds ∧ toPy x = some p ∧ toPyS ds = some ps ∧ SeqAt.shaped p = true ∧ SeqAt.shaped (.list ps) = true ∧ (ps.any fun z => PyData.eqv z p) = b := by
  unfold inD at h
  split at h
  · split at h
    · rename_i hs
      rw [Bool.and_eq_true] at hs
      cases h
      exact .inl ⟨_, rfl, hs.1, hs.2, rfl⟩
    · cases h
  · split at h
    · rename_i p ps h1 h2
      split at h
      · rename_i hs
        rw [Bool.and_eq_true] at hs
        cases h
        exact .inr ⟨_, _, p, ps, rfl, h1, h2, hs.1, hs.2, rfl⟩
      · cases h
    · cases h
  · cases h
theorem opT_cmp (op : CmpOp) : OpT L k (compareOp op) (cmpB op) := by
  intro X N sc c pins s σ Hf H x y v u d1 d2 d F1 F2 Q I rx ry e r1 r2 hd p
  have hu : X.A.units + 65 < cLine := by have := c.room.un; omega
  unfold cmpB at hd
  cases hb : cmpD op d1 d2 with
  | none => rw [hb] at hd; cases hd
  | some b =>
    rw [hb] at hd
    cases hd
    have fin : ∀ b', b' = b → Q (.bl b') H := fun b' z => by subst z; exact p.flat (.refl e) rfl
    unfold cmpD at hb
    split at hb
    · cases hb; obtain ⟨rfl, _⟩ := r1; obtain ⟨rfl, _⟩ := r2; exact op_lt pins s σ H _ _ v u Q I rx ry ⟨_, _, rfl, rfl, fin _ rfl⟩
    · cases hb; obtain ⟨rfl, _⟩ := r1; obtain ⟨rfl, _⟩ := r2; exact op_le pins s σ H _ _ v u Q I rx ry ⟨_, _, rfl, rfl, fin _ rfl⟩
    · cases hb; obtain ⟨rfl, _⟩ := r1; obtain ⟨rfl, _⟩ := r2; exact op_gt pins s σ H _ _ v u Q I rx ry ⟨_, _, rfl, rfl, fin _ rfl⟩
    · cases hb; obtain ⟨rfl, _⟩ := r1; obtain ⟨rfl, _⟩ := r2; exact op_ge pins s σ H _ _ v u Q I rx ry ⟨_, _, rfl, rfl, fin _ rfl⟩
    · obtain ⟨p1, p2, h1, h2, s1, s2, hv⟩ := eqD_inv hb
      exact op_eqD (by omega) pins s σ H _ _ v u Q I rx ry ⟨p1, p2, c.hK ▸ rep_dp e _ _ _ _ r1 h1, c.hK ▸ rep_dp e _ _ _ _ r2 h2, s1, s2, fin _ hv⟩
    · cases he : eqD d1 d2 with
      | none => rw [he] at hb; cases hb
      | some b0 =>
        rw [he] at hb
        cases hb
        obtain ⟨p1, p2, h1, h2, s1, s2, hv⟩ := eqD_inv he
        exact op_neD (by omega) pins s σ H _ _ v u Q I rx ry ⟨p1, p2, c.hK ▸ rep_dp e _ _ _ _ r1 h1, c.hK ▸ rep_dp e _ _ _ _ r2 h2, s1, s2, fin _ (by rw [hv])⟩
    · rcases inD_inv hb with ⟨ds, rfl, f1, f2, hv⟩ | ⟨m, ds, p1, ps, rfl, h1, h2, s1, s2, hv⟩
      · obtain ⟨a, xs, rfl, q, r⟩ := rep_tup e r2
        obtain ⟨e1, e2⟩ := repS_v r f2
        have e3 := rep_v r1 f1
        subst e3
        subst e1
        exact op_in_seq pins s σ H _ _ v u Q I rx ry ⟨a, _, rfl, .inr (c.hK ▸ q), flat_v f1, e2, fin _ (by rw [← hv]; unfold inV; rw [if_neg Bool.false_ne_true, List.any_map]; rfl)⟩
      · have r3 : rep L.T Hf H (.lst m ds) y F2 := r2
        have hd2 := rep_dp e _ _ _ (.list ps) r3 (by simp [toPy, h2])
        exact op_inD hu pins s σ H _ _ v u Q I rx ry ⟨p1, ps, c.hK ▸ rep_dp e _ _ _ _ r1 h1, c.hK ▸ hd2, s1, s2, fin _ hv⟩
    · cases he : inD d1 d2 with
      | none => rw [he] at hb; cases hb
      | some b0 =>
        rw [he] at hb
        cases hb
        rcases inD_inv he with ⟨ds, rfl, f1, f2, hv⟩ | ⟨m, ds, p1, ps, rfl, h1, h2, s1, s2, hv⟩
        · obtain ⟨a, xs, rfl, q, r⟩ := rep_tup e r2
          obtain ⟨e1, e2⟩ := repS_v r f2
          have e3 := rep_v r1 f1
          subst e3
          subst e1
          exact op_notIn_seq pins s σ H _ _ v u Q I rx ry ⟨a, _, rfl, .inr (c.hK ▸ q), flat_v f1, e2, fin _ (by rw [← hv]; unfold inV; rw [if_pos rfl, List.any_map]; rfl)⟩
        · have hd2 := rep_dp e _ _ _ (.list ps) r2 (by simp [toPy, h2])
          exact op_notInD hu pins s σ H _ _ v u Q I rx ry ⟨p1, ps, c.hK ▸ rep_dp e _ _ _ _ r1 h1, c.hK ▸ hd2, s1, s2, fin _ (by rw [hv])⟩
    · cases hb; have e2 := r2.1; subst e2; exact op_isN pins s σ H _ _ v u Q I rx ry ⟨rfl, fin _ (rep_isN r1)⟩
    · cases hb; have e2 := r2.1; subst e2; exact op_notN pins s σ H _ _ v u Q I rx ry ⟨rfl, fin _ (by rw [rep_isN r1])⟩
    · cases hb; obtain ⟨rfl, _⟩ := r1; obtain ⟨rfl, _⟩ := r2; exact op_is_bl pins s σ H _ _ v u Q I rx ry ⟨_, _, rfl, rfl, fin _ rfl⟩
    · cases hb; obtain ⟨rfl, _⟩ := r1; obtain ⟨rfl, _⟩ := r2; exact op_isnot_bl pins s σ H _ _ v u Q I rx ry ⟨_, _, rfl, rfl, fin _ rfl⟩
    · cases hb
end
end Z

/-! Z7: tests, subscripts, slices, fields, displays, arguments, built-in functions. -/
namespace Z
open PySem PySem.Spec PyProof.Rows L2
open Evl (Ex ex_l ex_t ex_rd)

section
variable {L : Law} {N : List Str} {sc : Sc} {k : Nat}
/-! ### tests -/
def SemT (L : Law) (N : List Str) (sc : Sc) (k : Nat) (e : Expr) (e' : E) : Prop :=
  ∀ X, Cok L N sc k X → ∀ ρ b, test L.G e' ρ = some b → ∀ Hf0 H0 Hf H σ, StOk L.T Hf0 H0 Hf H ρ σ → ∀ Q : Bool → Hp → Prop, (∀ H' Hf', Gr Hf H Hf' H' → Q b H') → tT X e σ H Q
/-- a test whatever its whole is -/
def tW (X : Cx) (e : Expr) : TT := fun σ H Q => ∀ whole pins s, Inv X pins σ H s → wpAny (model X.prog X.w) X.A (isTrue e X.env whole) (TP X pins σ Q) X.xe s
theorem pw_ {X : Cx} (e : Expr) : PW X e (tW X e) := ⟨fun wh pins s _ _ _ I h => h wh pins s I⟩
theorem by_pw {X : Cx} {e : Expr} {t : TT} {σ : L2.St} {H : Hp} {Q : Bool → Hp → Prop} (p : PW X e t) (h : t σ H Q) : tW X e σ H Q := fun wh pins s I => p.run wh pins s σ H Q I h
def SemW (L : Law) (N : List Str) (sc : Sc) (k : Nat) (e : Expr) (e' : E) : Prop :=
  ∀ X, Cok L N sc k X → ∀ ρ b, test L.G e' ρ = some b → ∀ Hf0 H0 Hf H σ, StOk L.T Hf0 H0 Hf H ρ σ → ∀ Q : Bool → Hp → Prop, (∀ H' Hf', Gr Hf H Hf' H' → Q b H') → tW X e σ H Q
theorem SemW.t {e : Expr} {e' : E} (h : SemW L N sc k e e') : SemT L N sc k e e' := fun X c ρ b ht Hf0 H0 Hf H σ S Q q => by_pt (PW.pt (pw_ e)) (h X c ρ b ht Hf0 H0 Hf H σ S Q q)
theorem rep_tru {T : Tab} {Hf H : Hp} {d : D} {v : V} {F : List Addr} {b : Bool} (s : Ex Hf H) (h : rep T Hf H d v F) (e : truD d = some b) : TruV T.K v H b := by
  cases d with
  | non => rw [h.1]; cases e; rfl
  | bl x => rw [h.1]; cases e; rfl
  | int i => rw [h.1]; cases e; rfl
  | str x => cases e
  | lst m ds =>
    obtain ⟨a, xs, G, rfl, q, r⟩ := rep_lst s h
    cases e
    refine .inl ⟨xs, q, ?_⟩
    have l := repS_len r
    cases ds <;> cases xs <;> first | rfl | simp at l
  | tup ds =>
    obtain ⟨a, xs, rfl, q, r⟩ := rep_tup s h
    cases e
    refine .inr (.inl ⟨xs, q, ?_⟩)
    have l := repS_len r
    cases ds <;> cases xs <;> first | rfl | simp at l
  | obj m c ks ds => cases e
/-- an expression whose test is its value's truth -/
theorem semT_plain {e : Expr} {e' : E} (h : SemE L N sc k e e') (he : ∀ env whole, isTrue e env whole = (do let v ← whole; standAt e.pos; holding [v] (truthy v))) : SemT L N sc k e e' := by
  intro X c ρ b ht Hf0 H0 Hf H σ S Q q
  unfold test at ht
  split at ht
  · rename_i d f hd
    exact by_pt (pt_truth (pe_ e) (he _)) (h X c ρ d f hd Hf0 H0 Hf H σ S _ fun v H' Hf' F g r n => ⟨b, by rw [c.hK]; exact rep_tru g.s r ht, q H' Hf' g⟩)
  · cases ht
theorem semT_cmp {a b : Expr} {a' b' : E} {op : CmpOp} {pos : Pos} (o : OpT L k (compareOp op) (cmpBG L.G op)) (hm : behindInMarks op b = false) (ha : SemE L N sc k a a') (hb : SemE L N sc k b b') : SemT L N sc k (.Compare a [op] [b] pos) (.cmp op a' b') := by
  intro X c ρ bb ht Hf0 H0 Hf H σ S Q q
  unfold test at ht
  simp only [ev] at ht
  split at ht
  · rename_i d f hd
    split at hd
    · rename_i x f1 y f2 e1 e2
      cases hh : cmpG L.G op x y with
      | none => rw [hh] at hd; cases hd
      | some d' =>
        rw [hh] at hd
        cases hd
        cases ht
        exact by_pt (pt_cmpR (o.r c) (pe_ a) (pe_ b) hm) (two ha hb c e1 e2 S fun v u H' Hf' F1 F2 g r1 r2 =>
          ⟨Hf', x, y, .bl bb, F1, F2, g.s, r1, r2, by unfold cmpBG; rw [hh]; rfl, fun v H2 Hf2 F g2 r _ => ⟨bb, rep_bl r, q H2 Hf2 (g.trans g2)⟩⟩)
    · cases hd
  · cases ht
theorem semT_chain {a b e : Expr} {a' b' e' : E} {op op' : CmpOp} {pos : Pos} (hm : lastMarks [op, op'] [b, e] = false) (ha : SemE L N sc k a a') (hb : SemE L N sc k b b') (hc : SemE L N sc k e e') :
    SemT L N sc k (.Compare a [op, op'] [b, e] pos) (.chain op op' a' b' e') := by
  intro X c ρ bb ht Hf0 H0 Hf H σ S Q q
  have se := sem_chain (pos := pos) (opT_cmp (L := L) op) (opT_cmp op') hm ha hb hc
  unfold test at ht
  split at ht
  · rename_i d f hd
    -- by the value's own proof, read as a test
    simp only [ev] at hd
    split at hd
    · rename_i x f1 y f2 e1 e2
      refine by_pt (pt_chain ((opT_cmp op).r c) ((opT_cmp op').r c) (pe_ a) (pe_ b) (pe_ e) hm) (two ha hb c e1 e2 S fun v u H' Hf' F1 F2 g r1 r2 => ?_)
      split at hd
      · rename_i hx
        split at hd
        · rename_i z f3 e3
          cases hd2 : cmpD op' y z with
          | none => rw [hd2] at hd; cases hd
          | some k2 =>
            rw [hd2] at hd
            cases hd
            cases ht
            refine ⟨Hf', x, y, .bl true, F1, F2, g.s, r1, r2, by unfold cmpB; rw [hx]; rfl, fun v1 H1 Hf1 F3 g1 r3 _ => ⟨true, rep_bl r3, ?_⟩⟩
            rw [if_pos rfl]
            exact hc X c ρ z f3 e3 Hf0 H0 Hf1 H1 σ ((S.grow g).grow g1) _ fun w H2 Hf2 F4 g2 r4 _ =>
              ⟨Hf2, y, z, .bl bb, F2, F4, g2.s, rep_mono (g1.trans g2).f _ _ _ (fun a _ o q => (g1.trans g2).e a o q) r2, r4, by unfold cmpB; rw [hd2]; rfl, fun v H3 Hf3 F g3 r _ => ⟨bb, rep_bl r, q H3 Hf3 (((g.trans g1).trans g2).trans g3)⟩⟩
        · cases hd
      · rename_i hx
        cases hd
        cases ht
        refine ⟨Hf', x, y, .bl false, F1, F2, g.s, r1, r2, by unfold cmpB; rw [hx]; rfl, fun v1 H1 Hf1 F3 g1 r3 _ => ⟨false, rep_bl r3, ?_⟩⟩
        rw [if_neg Bool.false_ne_true]
        exact ⟨false, rfl, q H1 Hf1 (g.trans g1)⟩
      · cases hd
    · cases hd
  · cases ht
theorem semW_and1 {a : Expr} {a' : E} {pos : Pos} (ha : SemT L N sc k a a') : SemW L N sc k (.BoolOp .And [a] pos) a' := fun X c ρ b ht Hf0 H0 Hf H σ S Q q => by_pw (pw_and1 (pt_ a)) (ha X c ρ b ht Hf0 H0 Hf H σ S Q q)
theorem semW_or1 {a : Expr} {a' : E} {pos : Pos} (ha : SemT L N sc k a a') : SemW L N sc k (.BoolOp .Or [a] pos) a' := fun X c ρ b ht Hf0 H0 Hf H σ S Q q => by_pw (pw_or1 (pt_ a)) (ha X c ρ b ht Hf0 H0 Hf H σ S Q q)
theorem semW_and {a b : Expr} {r : List Expr} {a' b' : E} {pos : Pos} (ha : SemT L N sc k a a') (hb : SemW L N sc k (.BoolOp .And (b :: r) pos) b') : SemW L N sc k (.BoolOp .And (a :: b :: r) pos) (.and a' b') := by
  intro X c ρ bb ht Hf0 H0 Hf H σ S Q q
  unfold test at ht
  simp only [ev] at ht
  split at ht
  · rename_i d f hd
    split at hd
    · rename_i f1 e1
      split at hd
      · rename_i b1 f2 e2
        cases hd
        cases ht
        refine by_pw (pw_and (pt_ a) (pw_ _)) (ha X c ρ true (by unfold test; rw [e1]; rfl) Hf0 H0 Hf H σ S _ fun H1 Hf1 g1 => ?_)
        rw [if_pos rfl]
        exact hb X c ρ bb (by unfold test; rw [e2]; rfl) Hf0 H0 Hf1 H1 σ (S.grow g1) _ fun H2 Hf2 g2 => q H2 Hf2 (g1.trans g2)
      · cases hd
    · rename_i f1 e1
      cases hd
      cases ht
      refine by_pw (pw_and (pt_ a) (pw_ _)) (ha X c ρ false (by unfold test; rw [e1]; rfl) Hf0 H0 Hf H σ S _ fun H1 Hf1 g1 => ?_)
      rw [if_neg Bool.false_ne_true]
      exact q H1 Hf1 g1
    · cases hd
  · cases ht
theorem semW_or {a b : Expr} {r : List Expr} {a' b' : E} {pos : Pos} (ha : SemT L N sc k a a') (hb : SemW L N sc k (.BoolOp .Or (b :: r) pos) b') : SemW L N sc k (.BoolOp .Or (a :: b :: r) pos) (.or a' b') := by
  intro X c ρ bb ht Hf0 H0 Hf H σ S Q q
  unfold test at ht
  simp only [ev] at ht
  split at ht
  · rename_i d f hd
    split at hd
    · rename_i f1 e1
      split at hd
      · rename_i b1 f2 e2
        cases hd
        cases ht
        refine by_pw (pw_or (pt_ a) (pw_ _)) (ha X c ρ false (by unfold test; rw [e1]; rfl) Hf0 H0 Hf H σ S _ fun H1 Hf1 g1 => ?_)
        rw [if_neg Bool.false_ne_true]
        exact hb X c ρ bb (by unfold test; rw [e2]; rfl) Hf0 H0 Hf1 H1 σ (S.grow g1) _ fun H2 Hf2 g2 => q H2 Hf2 (g1.trans g2)
      · cases hd
    · rename_i f1 e1
      cases hd
      cases ht
      refine by_pw (pw_or (pt_ a) (pw_ _)) (ha X c ρ true (by unfold test; rw [e1]; rfl) Hf0 H0 Hf H σ S _ fun H1 Hf1 g1 => ?_)
      rw [if_pos rfl]
      exact q H1 Hf1 g1
    · cases hd
  · cases ht
theorem semT_not {a : Expr} {a' : E} {pos : Pos} (ha : SemT L N sc k a a') : SemT L N sc k (.UnaryOp .Not a pos) (.not a') := by
  intro X c ρ bb ht Hf0 H0 Hf H σ S Q q
  unfold test at ht
  simp only [ev] at ht
  split at ht
  · rename_i d f hd
    split at hd
    · rename_i b1 f1 e1
      cases hd
      cases ht
      exact by_pt (pt_not (pt_ a)) (ha X c ρ b1 (by unfold test; rw [e1]; rfl) Hf0 H0 Hf H σ S _ fun H1 Hf1 g1 => q H1 Hf1 g1)
    · cases hd
  · cases ht
theorem sem_ite {t a b : Expr} {t' a' b' : E} {pos : Pos} (ht : SemT L N sc k t t') (ha : SemE L N sc k a a') (hb : SemE L N sc k b b') : SemE L N sc k (.IfExp t a b pos) (.ite t' a' b') := by
  intro X c ρ d fr h Hf0 H0 Hf H σ S Q p
  simp only [ev] at h
  split at h
  · rename_i f1 e1
    refine by_pe (pe_ifExp (pt_ t) (pe_ a) (pe_ b)) (ht X c ρ true (by unfold test; rw [e1]; rfl) Hf0 H0 Hf H σ S _ fun H1 Hf1 g1 => ?_)
    rw [if_pos rfl]
    exact ha X c ρ d fr h Hf0 H0 Hf1 H1 σ (S.grow g1) Q (p.grow g1)
  · rename_i f1 e1
    refine by_pe (pe_ifExp (pt_ t) (pe_ a) (pe_ b)) (ht X c ρ false (by unfold test; rw [e1]; rfl) Hf0 H0 Hf H σ S _ fun H1 Hf1 g1 => ?_)
    rw [if_neg Bool.false_ne_true]
    exact hb X c ρ d fr h Hf0 H0 Hf1 H1 σ (S.grow g1) Q (p.grow g1)
  · cases h

/-! ### subscripts, slices, fields -/
theorem atI_rep {T : Tab} {Hf H : Hp} {ds : List D} {xs : List V} {F : List Addr} {i : Int} {d : D} (r : repS T Hf H ds xs F) (h : at? ds i = some d) : ∃ v G, atI xs i = some v ∧ rep T Hf H d v G := by
  unfold at? atI at h
  have l := repS_len r
  cases e : ixN ds.length i with
  | none => rw [e] at h; cases h
  | some j =>
    rw [e] at h
    obtain ⟨v, G, h1, h2, _⟩ := repS_get r (i := j) h
    exact ⟨v, G, by unfold atI; rw [l, e]; exact h1, h2⟩
theorem sem_idx {a b : Expr} {a' b' : E} {pos : Pos} (hs : PlainIx b) (ha : SemE L N sc k a a') (hb : SemE L N sc k b b') : SemE L N sc k (.Subscript a b pos) (.idx a' b') := by
  intro X c ρ d fr h Hf0 H0 Hf H σ S Q p
  simp only [ev] at h
  split at h
  · rename_i x f1 i f2 e1 e2
    split at h
    · rename_i ds hds
      cases hd : at? ds i with
      | none => rw [hd] at h; cases h
      | some d' =>
        rw [hd] at h
        cases h
        refine by_pe (pe_ix ix_seq (pe_ a) (pe_ b) hs) (two ha hb c e1 e2 S fun v u H' Hf' F1 F2 g r1 r2 => ?_)
        obtain ⟨p1, xs, G, rfl, q, r⟩ := rep_seq g.s r1 hds
        obtain ⟨rfl, _⟩ := r2
        obtain ⟨w, G2, hw, rw'⟩ := atI_rep r hd
        have fin : Q w H' := p.ret g rw' fun z => by rw [fz_nil rw' z]; exact New.nil
        rcases q with q | q
        · exact .inl ⟨p1, xs, i, w, rfl, rfl, c.hK ▸ q, hw, fin⟩
        · exact .inr (.inl ⟨p1, xs, i, w, rfl, rfl, c.hK ▸ q, hw, fin⟩)
    · cases h
  · cases h
/-- a part of a slice -/
def tO (X : Cx) (o : Option Expr) (o' : E) : Prop := True
def SemO (L : Law) (N : List Str) (sc : Sc) (k : Nat) (o : Option Expr) (o' : E) : Prop :=
  match o with
  | none => o' = .skip
  | some e => o' ≠ .skip ∧ SemE L N sc k e o'
theorem optI_some {e : E} {r : Option (D × Bool)} {l : Option Int} (h : optI e r = some l) (n : e ≠ .skip) : ∃ i f, r = some (.int i, f) ∧ l = some i := by
  unfold optI at h
  split at h
  · exact absurd rfl n
  · cases h
    exact ⟨_, _, rfl, rfl⟩
  · cases h
/-- one part of a slice is read -/
theorem part {o : Option Expr} {o' : E} (ho : SemO L N sc k o o') {X : Cx} (c : Cok L N sc k X) {ρ : Rho} {l : Option Int} (h : optI o' (ev L.G o' ρ) = some l) {Hf0 H0 Hf H : Hp} {σ : L2.St} (S : StOk L.T Hf0 H0 Hf H ρ σ) :
    ∃ t : TO, PO X o t ∧ ∀ Hf1 H1, Gr Hf H Hf1 H1 → ∀ Q : Option Int → Hp → Prop, (∀ H' Hf', Gr Hf1 H1 Hf' H' → Q l H') → t σ H1 Q := by
  cases o with
  | none =>
    have e : o' = .skip := ho
    subst e
    cases h
    exact ⟨_, po_none, fun Hf1 H1 g Q q => q H1 Hf1 (.refl g.s)⟩
  | some e =>
    obtain ⟨n, he⟩ : o' ≠ .skip ∧ SemE L N sc k e o' := ho
    obtain ⟨i, f, e1, rfl⟩ := optI_some h n
    exact ⟨_, po_some (pe_ e), fun Hf1 H1 g Q q => he X c ρ _ f e1 Hf0 H0 Hf1 H1 σ (S.grow g) _ fun v H' Hf' F g1 r _ => ⟨i, r.1, q H' Hf' g1⟩⟩
theorem repS_drop {T : Tab} {Hf H : Hp} : ∀ {ds : List D} {xs : List V} (n : Nat), repS T Hf H ds xs [] → repS T Hf H (ds.drop n) (xs.drop n) []
  | _, _, 0, h => h
  | [], _, n + 1, h => by rw [h.1]; exact ⟨rfl, rfl⟩
  | d :: ds, _, n + 1, ⟨v, vs, F1, F2, e, f, r, q⟩ => by
    subst e
    have e2 : F2 = [] := by
      cases F1 with
      | nil => exact f.symm
      | cons a b => cases f
    subst e2
    exact repS_drop n q
theorem repS_take {T : Tab} {Hf H : Hp} : ∀ {ds : List D} {xs : List V} (n : Nat), repS T Hf H ds xs [] → repS T Hf H (ds.take n) (xs.take n) []
  | _, _, 0, h => ⟨rfl, rfl⟩
  | [], _, n + 1, h => by rw [h.1]; exact ⟨rfl, rfl⟩
  | d :: ds, _, n + 1, ⟨v, vs, F1, F2, e, f, r, q⟩ => by
    subst e
    have e2 : F1 = [] ∧ F2 = [] := by
      cases F1 with
      | nil => exact ⟨rfl, f.symm⟩
      | cons a b => cases f
    obtain ⟨e1, e2⟩ := e2
    subst e1; subst e2
    exact ⟨v, vs.take n, [], [], rfl, rfl, r, repS_take n q⟩
theorem sem_sl {a : Expr} {lo hi : Option Expr} {a' lo' hi' : E} {p2 pos : Pos} (ha : SemE L N sc k a a') (hlo : SemO L N sc k lo lo') (hhi : SemO L N sc k hi hi') : SemE L N sc k (.Subscript a (.Slice lo hi none p2) pos) (.sl a' lo' hi') := by
  intro X c ρ d fr h Hf0 H0 Hf H σ S Q p
  simp only [ev] at h
  split at h
  · rename_i m ds f1 l u e1 e2 e3
    split at h
    · rename_i hz
      cases h
      obtain ⟨tl, pl, ql⟩ := part hlo c e2 S
      obtain ⟨th, ph, qh⟩ := part hhi c e3 S
      refine by_pe (pe_slice sl_list (pe_ a) pl ph) (ha X c ρ _ f1 e1 Hf0 H0 Hf H σ S _ fun v H1 Hf1 F1 g1 r1 _ => ql Hf1 H1 g1 _ fun H2 Hf2 g2 => qh Hf2 H2 (g1.trans g2) _ fun H3 Hf3 g3 => ?_)
      have g := (g1.trans g2).trans g3
      have r3 := rep_mono (g2.trans g3).f _ _ _ (fun a _ o q => (g2.trans g3).e a o q) r1
      obtain ⟨b, xs, G, rfl, q, r⟩ := rep_lst g3.s r3
      have len := repS_len r
      refine ⟨b, xs, rfl, c.hK ▸ q, Post.newL (p.grow g) g3.s ?_⟩
      unfold sIxD cutV
      rw [len]
      exact repS_take _ (repS_drop _ (repS_fz r hz))
    · cases h
  · rename_i ds f1 l u e1 e2 e3
    cases h
    obtain ⟨tl, pl, ql⟩ := part hlo c e2 S
    obtain ⟨th, ph, qh⟩ := part hhi c e3 S
    refine by_pe (pe_slice sl_tupA (pe_ a) pl ph) (ha X c ρ _ f1 e1 Hf0 H0 Hf H σ S _ fun v H1 Hf1 F1 g1 r1 _ => ql Hf1 H1 g1 _ fun H2 Hf2 g2 => qh Hf2 H2 (g1.trans g2) _ fun H3 Hf3 g3 => ?_)
    have g := (g1.trans g2).trans g3
    have r3 := rep_mono (g2.trans g3).f _ _ _ (fun a _ o q => (g2.trans g3).e a o q) r1
    have r30 := r3
    obtain ⟨b, xs, rfl, q, r⟩ := rep_tup g3.s r3
    have len := repS_len r
    have cut : repS L.T Hf3 H3 ((ds.drop (sIxD ds.length 0 l)).take (sIxD ds.length ds.length u - sIxD ds.length 0 l)) (cutV xs l u) [] := by
      unfold sIxD cutV
      rw [len]
      exact repS_take _ (repS_drop _ r)
    refine ⟨b, xs, rfl, c.hK ▸ q, fun hw => ?_, fun _ => Post.newT (p.grow g) g3.s cut⟩
    have e : (ds.drop (sIxD ds.length 0 l)).take (sIxD ds.length ds.length u - sIxD ds.length 0 l) = ds := by
      unfold sIxD
      rw [len] at hw
      rw [hw.1, hw.2, List.drop_zero, Nat.sub_zero, List.take_length]
    rw [e] at p
    exact p.ret g r30 fun _ => by rw [fz_nil r30 rfl]; exact New.nil
  · cases h

/-! ### fields -/
theorem names_get {T : Tab} {Hf H : Hp} (nd : T.nm.Nodup) {kk : Nat} {x : Str} (hk : T.nm[kk]? = some x) : ∀ {ks : List Nat} {ds : List D} {fs : List (Str × V)} {d : D}, fs.map (fun p => some p.1) = ks.map (fun k => T.nm[k]?) → repS T Hf H ds (fs.map (·.2)) [] →
    getF kk ks ds = some d → ∃ v, fs.lookup x = some v ∧ rep T Hf H d v []
  | [], _, _, _, _, _, h => by simp [getF] at h
  | _ :: _, [], _, _, _, _, h => by simp [getF] at h
  | j :: ks, d0 :: ds, [], _, e, _, h => by simp at e
  | j :: ks, d0 :: ds, (y, w) :: fs, d, e, r, h => by
    rw [List.map_cons, List.map_cons] at e
    injection e with e1 e2
    obtain ⟨v, vs, F1, F2, e3, f, r1, r2⟩ := r
    rw [List.map_cons] at e3
    injection e3 with e4 e5
    subst e4
    have e6 : F1 = [] ∧ F2 = [] := by
      cases F1 with
      | nil => exact ⟨rfl, f.symm⟩
      | cons a b => cases f
    obtain ⟨e6, e7⟩ := e6
    subst e6; subst e7; subst e5
    unfold getF at h
    by_cases hj : j = kk
    · subst hj
      rw [if_pos rfl] at h
      cases h
      rw [hk] at e1
      cases e1
      exact ⟨w, by simp [List.lookup], r1⟩
    · rw [if_neg hj] at h
      obtain ⟨v2, h1, h2⟩ := names_get nd hk e2 r2 h
      refine ⟨v2, ?_, h2⟩
      have ne : (x == y) = false := by
        rw [beq_eq_false_iff_ne]
        intro z
        subst z
        have e8 : T.nm[j]? = some x := e1.symm
        obtain ⟨l1, q1⟩ := List.getElem?_eq_some_iff.mp e8
        obtain ⟨l2, q2⟩ := List.getElem?_eq_some_iff.mp hk
        exact hj ((List.getElem_inj nd).mp (q1.trans q2.symm))
      rw [List.lookup, ne]
      exact h1
/-- what holds of the law's own classes and names -/
structure LawOk (L : Law) : Prop where
  nm : L.T.nm.Nodup
  cls : ∀ c, Cls L.T.K (L.T.cl c)
  na : ∀ c, ∀ x ∈ L.T.nm, NoAttr L.T.K (L.T.cl c) x
theorem sem_fld {a : Expr} {a' : E} {kk : Nat} {f : Str} {pos : Pos} (O : LawOk L) (hf : L.T.nm[kk]? = some f) (hb : ∀ env, attributeBase a f env (eval a env) = eval a env) (ha : SemE L N sc k a a') : SemE L N sc k (.Attribute a f pos) (.fld a' kk) := by
  intro X c ρ d fr h Hf0 H0 Hf H σ S Q p
  simp only [ev] at h
  split at h
  · rename_i m cc ks ds f1 e1
    cases hd : getF kk ks ds with
    | none => rw [hd] at h; cases h
    | some d' =>
      rw [hd] at h
      cases h
      refine by_pe (pe_fld (pe_ a) (hb _)) (ha X c ρ _ f1 e1 Hf0 H0 Hf H σ S _ fun v H1 Hf1 F1 g1 r1 _ => ?_)
      have fin : ∀ b dx fs, v = .ref b → H1 b = some (.ins (L.T.cl cc) dx fs) → fs.map (fun p => some p.1) = ks.map (fun k => L.T.nm[k]?) → repS L.T Hf1 H1 ds (fs.map (·.2)) [] →
          ∃ a C dx fs w, v = .ref a ∧ H1 a = some (.ins C dx fs) ∧ Cls X.K C ∧ NoAttr X.K C f ∧ fs.lookup f = some w ∧ Q w H1 := fun b dx fs e q n r => by
        obtain ⟨w, hw, rw'⟩ := names_get O.nm hf n r hd
        exact ⟨b, _, dx, fs, w, e, q, c.hK ▸ O.cls cc, c.hK ▸ O.na cc f (List.mem_of_getElem? hf), hw, p.ret g1 rw' fun z => New.nil⟩
      cases m with
      | some _ => obtain ⟨b, dx, fs, e, _, q, n, r⟩ := r1; exact fin b dx fs e q.2 n r
      | none => obtain ⟨b, dx, fs, e, _, q, n, r⟩ := r1; exact fin b dx fs e (g1.s _ _ q) n r
  · cases h

/-! ### arguments, displays -/
theorem semA_nil : SemA L N sc k [] .nil := by
  intro X c ρ ds fr h Hf0 H0 Hf H σ S Q p
  cases h
  exact by_pa pa_nil (p [] H Hf [] (.refl S.sub) ⟨rfl, rfl⟩ fun _ => New.nil)
theorem semA_cons {e : Expr} {es : List Expr} {e' : E} {es' : Es} (hs : ∀ env, starEach (e :: es) env = (false, eval e env) :: starEach es env) (he : SemE L N sc k e e') (hr : SemA L N sc k es es') : SemA L N sc k (e :: es) (.cons e' es') := by
  intro X c ρ ds fr h Hf0 H0 Hf H σ S Q p
  simp only [evs] at h
  split at h
  · rename_i d f ds' g e1 e2
    cases h
    refine by_pa (pa_cons (pe_ e) (pa_ es) (hs _)) (he X c ρ d f e1 Hf0 H0 Hf H σ S _ fun v H1 Hf1 F1 g1 r1 n1 => hr X c ρ ds' g e2 Hf0 H0 Hf1 H1 σ (S.grow g1) _ fun vs H2 Hf2 F2 g2 r2 n2 => ?_)
    refine p (v :: vs) H2 Hf2 (F1 ++ F2) (g1.trans g2) ⟨v, vs, F1, F2, rfl, rfl, rep_mono g2.f _ _ _ (fun a _ o q => g2.e a o q) r1, r2⟩ fun z => ?_
    rw [Bool.and_eq_true] at z
    exact New.append (Hf := Hf) (Hf1 := Hf1) g1.e ((n1 z.1).grow g2 (rep_dom _ _ _ r1)) (rep_dom _ _ _ r1) (n2 z.2)
  · cases h
theorem sem_tup {es : List Expr} {es' : Es} {x1 : Nat} {pos : Pos} (ha : SemA L N sc k es es') : SemE L N sc k (.Tuple es x1 pos) (.tup es') := by
  intro X c ρ d fr h Hf0 H0 Hf H σ S Q p
  simp only [ev] at h
  split at h
  · rename_i ds e1
    split at h
    · rename_i hl
      cases h
      refine by_pe (pe_tup (pa_ es)) (ha X c ρ ds true e1 Hf0 H0 Hf H σ S _ fun vs H1 Hf1 F1 g1 r1 n1 => ?_)
      have n := n1 rfl
      have g2 := plus_gr g1 n
      have r2 : repS L.T (plus Hf1 H1 F1) H1 (frzS ds) vs [] := repS_frz (plus_ex n.f) _ _ _ (fun a ha o q => plus_in a ha o q) r1
      exact ⟨size_ok (by rw [repS_len r1]; exact of_decide_eq_true hl), Post.newT (p.grow g2) g2.s r2⟩
    · cases h
  · cases h
theorem sem_lst {es : List Expr} {es' : Es} {pos : Pos} (ha : SemA L N sc k es es') : SemE L N sc k (.List es pos) (.lst es') := by
  intro X c ρ d fr h Hf0 H0 Hf H σ S Q p
  simp only [ev] at h
  split at h
  · rename_i ds e1
    split at h
    · rename_i hl
      cases h
      refine by_pe (pe_lst (pa_ es)) (ha X c ρ ds true e1 Hf0 H0 Hf H σ S _ fun vs H1 Hf1 F1 g1 r1 n1 => ?_)
      have n := n1 rfl
      refine ⟨size_ok (by rw [repS_len r1]; exact of_decide_eq_true hl), fun a ha => ?_⟩
      have g2 : Gr Hf1 H1 Hf1 (upd H1 a (.lst vs)) := .push g1.s ha
      have na : ∀ b ∈ F1, b ≠ a := fun b hb z => by
        obtain ⟨o, q⟩ := repS_dom _ _ _ r1 b hb
        rw [z, ha] at q; cases q
      refine p (.ref a) _ Hf1 (a :: F1) (g1.trans g2) ⟨a, vs, F1, rfl, rfl, upd_same, repS_mono (fun _ _ q => q) _ _ _ (fun b hb o q => g2.e b o q) r1⟩ fun _ => ⟨List.nodup_cons.mpr ⟨fun hm => na a hm rfl, n.nd⟩, fun b hb => ?_, fun b hb => ?_⟩
      · rcases List.mem_cons.mp hb with rfl | hb
        · exact none_back g1.e ha
        · exact n.h b hb
      · rcases List.mem_cons.mp hb with rfl | hb
        · exact none_back g1.s ha
        · exact n.f b hb
    · cases h
  · cases h

/-! ### built-in functions -/
theorem intsOf_some : ∀ {ds : List D} {is : List Int}, intsOf ds = some is → ds = is.map D.int
  | [], _, h => by cases h; rfl
  | d :: r, is, h => by
    cases d with
    | int i =>
      simp only [intsOf] at h
      cases hr : intsOf r with
      | none => rw [hr] at h; cases h
      | some js =>
        rw [hr] at h
        cases h
        rw [intsOf_some hr]
        rfl
    | _ => simp [intsOf] at h
theorem repS_ints {T : Tab} {Hf H : Hp} : ∀ {is : List Int} {xs : List V} {F : List Addr}, repS T Hf H (is.map D.int) xs F → xs = is.map V.int
  | [], _, _, h => h.1
  | i :: r, _, _, ⟨v, vs, F1, F2, e, f, r1, r2⟩ => by
    subst e
    have e2 := r1.1
    subst e2
    rw [repS_ints r2]
    rfl
theorem ints_repS {T : Tab} {Hf H : Hp} : ∀ is : List Int, repS T Hf H (is.map D.int) (is.map V.int) []
  | [] => ⟨rfl, rfl⟩
  | i :: r => ⟨.int i, r.map V.int, [], [], rfl, rfl, ⟨rfl, rfl⟩, ints_repS r⟩
theorem insI_perm (i : Int) : ∀ l : List Int, (insI i l).Perm (i :: l)
  | [] => .refl _
  | j :: r => by
    unfold insI
    split
    · exact .refl _
    · exact (List.Perm.cons j (insI_perm i r)).trans (List.Perm.swap i j r)
theorem insI_mem {i x : Int} {l : List Int} (h : x ∈ insI i l) : x = i ∨ x ∈ l := by
  have := (insI_perm i l).mem_iff.mp h
  simpa using this
theorem insI_sorted (i : Int) : ∀ l : List Int, l.Pairwise (· ≤ ·) → (insI i l).Pairwise (· ≤ ·)
  | [], _ => List.pairwise_cons.mpr ⟨by simp, .nil⟩
  | j :: r, h => by
    unfold insI
    have hj := List.pairwise_cons.mp h
    split
    · rename_i hij
      refine List.pairwise_cons.mpr ⟨fun x hx => ?_, h⟩
      rcases List.mem_cons.mp hx with rfl | hx
      · exact hij
      · have := hj.1 x hx; omega
    · rename_i hij
      refine List.pairwise_cons.mpr ⟨fun x hx => ?_, insI_sorted i r hj.2⟩
      rcases insI_mem hx with rfl | hx
      · omega
      · exact hj.1 x hx
theorem srtI_perm : ∀ l : List Int, (srtI l).Perm l
  | [] => .refl _
  | i :: r => (insI_perm i _).trans (.cons i (srtI_perm r))
theorem srtI_sorted : ∀ l : List Int, (srtI l).Pairwise (· ≤ ·)
  | [] => .nil
  | i :: r => insI_sorted i _ (srtI_sorted r)
theorem sorted_same : ∀ {a b : List Int}, a.Perm b → a.Pairwise (· ≤ ·) → b.Pairwise (· ≤ ·) → a = b
  | [], b, p, _, _ => (List.nil_perm.mp p).symm
  | x :: a, [], p, _, _ => absurd p.length_eq (by simp)
  | x :: a, y :: b, p, ha, hb => by
    have h1 := List.pairwise_cons.mp ha
    have h2 := List.pairwise_cons.mp hb
    have xy : x = y := by
      have m1 : x ∈ y :: b := p.mem_iff.mp List.mem_cons_self
      have m2 : y ∈ x :: a := p.mem_iff.mpr List.mem_cons_self
      rcases List.mem_cons.mp m1 with e | m1
      · exact e
      · rcases List.mem_cons.mp m2 with e | m2
        · exact e.symm
        · have z1 := h2.1 x m1
          have z2 := h1.1 y m2
          omega
    subst xy
    rw [sorted_same (List.Perm.cons_inv p) h1.2 h2.2]
theorem maxI_spec : ∀ {l : List Int} {m : Int}, maxI l = some m → m ∈ l ∧ ∀ y ∈ l, y ≤ m
  | [], _, h => by cases h
  | [i], _, h => by cases h; simp
  | i :: j :: r, m, h => by
    unfold maxI at h
    cases e : maxI (j :: r) with
    | none => rw [e] at h; cases h
    | some n =>
      rw [e] at h
      obtain ⟨h1, h2⟩ := maxI_spec e
      have hm : (if n ≤ i then i else n) = m := by simpa using h
      subst hm
      by_cases c : n ≤ i
      · rw [if_pos c]
        refine ⟨List.mem_cons_self, fun y hy => ?_⟩
        rcases List.mem_cons.mp hy with rfl | hy
        · omega
        · have := h2 y hy; omega
      · rw [if_neg c]
        refine ⟨List.mem_cons_of_mem _ h1, fun y hy => ?_⟩
        rcases List.mem_cons.mp hy with rfl | hy
        · omega
        · exact h2 y hy
theorem minI_spec : ∀ {l : List Int} {m : Int}, minI l = some m → m ∈ l ∧ ∀ y ∈ l, m ≤ y
  | [], _, h => by cases h
  | [i], _, h => by cases h; simp
  | i :: j :: r, m, h => by
    unfold minI at h
    cases e : minI (j :: r) with
    | none => rw [e] at h; cases h
    | some n =>
      rw [e] at h
      obtain ⟨h1, h2⟩ := minI_spec e
      have hm : (if i ≤ n then i else n) = m := by simpa using h
      subst hm
      by_cases c : i ≤ n
      · rw [if_pos c]
        refine ⟨List.mem_cons_self, fun y hy => ?_⟩
        rcases List.mem_cons.mp hy with rfl | hy
        · omega
        · have := h2 y hy; omega
      · rw [if_neg c]
        refine ⟨List.mem_cons_of_mem _ h1, fun y hy => ?_⟩
        rcases List.mem_cons.mp hy with rfl | hy
        · omega
        · exact h2 y hy
/-- a built-in f does on trees what g says -/
def CallT (L : Law) (k : Nat) (f : Value) (g : List D → Option D) : Prop := ∀ X N sc, Cok L N sc k X → sc.hot = false → CallR X f fun xs H Q => ∃ Hf ds F d, Ex Hf H ∧ repS L.T Hf H ds xs F ∧ g ds = some d ∧ Post L.T Hf H d true Q
def g1 (g : D → Option D) : List D → Option D
  | [d] => g d
  | _ => none
theorem repS_1 {T : Tab} {Hf H : Hp} {d : D} {xs : List V} {F : List Addr} (h : repS T Hf H [d] xs F) : ∃ v, xs = [v] ∧ rep T Hf H d v F := by
  obtain ⟨v, vs, F1, F2, e, f, r, e2, f2⟩ := h
  subst e; subst e2; subst f2; subst f
  rw [List.append_nil]
  exact ⟨v, rfl, r⟩
theorem repS_2 {T : Tab} {Hf H : Hp} {d d' : D} {xs : List V} {F : List Addr} (h : repS T Hf H [d, d'] xs F) : ∃ v w F1 F2, xs = [v, w] ∧ rep T Hf H d v F1 ∧ rep T Hf H d' w F2 := by
  obtain ⟨v, vs, F1, F2, e, f, r, r2⟩ := h
  obtain ⟨w, e2, q2⟩ := repS_1 r2
  subst e; subst e2
  exact ⟨v, w, F1, F2, rfl, r, q2⟩
theorem one_inv {g : D → Option D} {ds : List D} {d : D} (h : one g ds = some d) : ∃ x, ds = [x] ∧ g x = some d := by
  unfold one at h
  split at h
  · exact ⟨_, rfl, h⟩
  · cases h
theorem two_inv {g : D → D → Option D} {ds : List D} {d : D} (h : two2 g ds = some d) : ∃ x y, ds = [x, y] ∧ g x y = some d := by
  unfold two2 at h
  split at h
  · exact ⟨_, _, rfl, h⟩
  · cases h
/-- a built-in of one argument -/
theorem callT_1 {f : Value} {g : D → Option D} (h : ∀ X N sc, Cok L N sc k X → sc.hot = false → ∀ (pins : List (Addr × Obj)) (s : Shared) (σ : L2.St) (Hf H : Hp) (x : V) (us : List Value) (y d : D) (F : List Addr) (Q : VK), Inv X pins σ H s → Vals [x] us → Ex Hf H → rep L.T Hf H y x F → g y = some d → Post L.T Hf H d true Q →
    wpAny (model X.prog X.w) X.A (PySem.call f us) (EP X pins σ Q) X.xe s) : CallT L k f (one g) := by
  intro X N sc c hh pins s σ H xs us Q I rx ⟨Hf, ds, F, d, e, r, hd, p⟩
  obtain ⟨y, rfl, hd⟩ := one_inv hd
  obtain ⟨v, e2, q⟩ := repS_1 r
  subst e2
  exact h X N sc c hh pins s σ Hf H v us y d F Q I rx e q hd p
theorem callT_len : CallT L k (.builtin "len") (bltD .len) := callT_1 fun X N sc c hh pins s σ Hf H x us y d F Q I rx e r hd p => by
  unfold lenD at hd
  split at hd
  · cases hd
    obtain ⟨a, xs, G, rfl, q, r⟩ := rep_lst e r
    exact call_len pins s σ H _ us Q I rx ⟨_, _, rfl, .inl ⟨xs, c.hK ▸ q, rfl⟩, by rw [repS_len r]; exact p.flat (.refl e) rfl⟩
  · cases hd
    obtain ⟨a, xs, rfl, q, r⟩ := rep_tup e r
    exact call_len pins s σ H _ us Q I rx ⟨_, _, rfl, .inr ⟨xs, c.hK ▸ q, rfl⟩, by rw [repS_len r]; exact p.flat (.refl e) rfl⟩
  · cases hd
theorem callT_int : CallT L k (.type "int") (bltD .int) := callT_1 fun X N sc c hh pins s σ Hf H x us y d F Q I rx e r hd p => by
  unfold intD at hd
  split at hd
  · cases hd; have e2 := r.1; subst e2; exact call_int1 pins s σ H _ us Q I rx (.inl ⟨_, rfl, p.flat (.refl e) rfl⟩)
  · cases hd; have e2 := r.1; subst e2; exact call_int1 pins s σ H _ us Q I rx (.inr ⟨_, rfl, p.flat (.refl e) rfl⟩)
  · cases hd
theorem callT_bool : CallT L k (.type "bool") (bltD .bool) := callT_1 fun X N sc c hh pins s σ Hf H x us y d F Q I rx e r hd p => by
  unfold boolD at hd
  split at hd
  · cases hd; have e2 := r.1; subst e2; exact call_bool1 pins s σ H _ us Q I rx (.inl ⟨_, rfl, p.flat (.refl e) rfl⟩)
  · cases hd; have e2 := r.1; subst e2; exact call_bool1 pins s σ H _ us Q I rx (.inr ⟨_, rfl, p.flat (.refl e) rfl⟩)
  · cases hd
theorem callT_tuple : CallT L k (.type "tuple") (bltD .tuple) := callT_1 fun X N sc c hh pins s σ Hf H x us y d F Q I rx e r hd p => by
  unfold tupleD at hd
  split at hd
  · split at hd
    · rename_i hz
      cases hd
      obtain ⟨a, xs, G, rfl, q, r⟩ := rep_lst e r
      exact call_tuple_of pins s σ H _ us Q I rx ⟨a, xs, rfl, .inl ⟨c.hK ▸ q, p.newT e (repS_fz r hz)⟩⟩
    · cases hd
  · cases hd
    have r0 := r
    obtain ⟨a, xs, rfl, q, r⟩ := rep_tup e r
    exact call_tuple_of pins s σ H _ us Q I rx ⟨a, xs, rfl, .inr ⟨c.hK ▸ q, p.ret (.refl e) r0 fun _ => by rw [fz_nil r0 rfl]; exact New.nil⟩⟩
  · cases hd
theorem callT_list : CallT L k (.type "list") (bltD .list) := callT_1 fun X N sc c hh pins s σ Hf H x us y d F Q I rx e r hd p => by
  unfold listD at hd
  split at hd
  · rename_i ds hs
    split at hd
    · rename_i hz
      cases hd
      obtain ⟨a, xs, G, rfl, q, r⟩ := rep_seq e r hs
      exact call_list_of pins s σ H _ us Q I rx ⟨a, xs, rfl, c.hK ▸ q, p.newL e (repS_fz r hz)⟩
    · cases hd
  · cases hd
theorem lstI_inv {T : Tab} {Hf H : Hp} {x : D} {v : V} {F : List Addr} {is : List Int} (e : Ex Hf H) (r : rep T Hf H x v F) (h : lstI x = some is) : ∃ a, v = .ref a ∧ SqL T.K H a (is.map V.int) := by
  unfold lstI at h
  split at h
  · obtain ⟨a, xs, G, rfl, q, r⟩ := rep_lst e r
    have e1 := intsOf_some h
    subst e1
    rw [repS_ints r] at q
    exact ⟨a, rfl, q⟩
  · cases h
theorem callT_sorted : CallT L k (.builtin "sorted") (bltD .sorted) := callT_1 fun X N sc c hh pins s σ Hf H x us y d F Q I rx e r hd p => by
  unfold sortedD at hd
  cases hl : lstI y with
  | none => rw [hl] at hd; cases hd
  | some is =>
    rw [hl] at hd
    cases hd
    obtain ⟨a, rfl, q⟩ := lstI_inv e r hl
    refine cr_sortedI pins s σ H _ us Q I rx ⟨a, is, rfl, c.hK ▸ q, fun ns' a2 pe so ha => ?_⟩
    have e1 : ns' = srtI is := sorted_same (pe.trans (srtI_perm is).symm) so (srtI_sorted is)
    subst e1
    exact p.newL e (ints_repS _) a2 ha
theorem maxI_none : ∀ {l : List Int}, maxI l = none → l = []
  | [], _ => rfl
  | [i], h => by cases h
  | i :: j :: r, h => by
    unfold maxI at h
    cases e : maxI (j :: r) with
    | none => exact absurd (maxI_none e) (by simp)
    | some n => rw [e] at h; cases h
theorem callT_max1 : CallT L k (.builtin "max") (bltD .max1) := callT_1 fun X N sc c hh pins s σ Hf H x us y d F Q I rx e r hd p => by
  unfold max1D at hd
  cases hl : lstI y with
  | none => rw [hl] at hd; cases hd
  | some is =>
    rw [hl] at hd
    cases hm : maxI is with
    | none => simp [hm] at hd
    | some m =>
      simp [hm] at hd
      subst hd
      obtain ⟨a, rfl, q⟩ := lstI_inv e r hl
      obtain ⟨h1, h2⟩ := maxI_spec hm
      refine cr_max (c.calm hh) pins s σ H _ us Q I rx ⟨a, is, rfl, c.hK ▸ q, by cases is with | nil => cases h1 | cons _ _ => simp, fun m' h3 h4 => ?_⟩
      have e1 : m' = m := by have := h4 m h1; have := h2 m' h3; omega
      subst e1
      exact p.flat (.refl e) rfl
theorem callT_min1 : CallT L k (.builtin "min") (bltD .min1) := callT_1 fun X N sc c hh pins s σ Hf H x us y d F Q I rx e r hd p => by
  unfold min1D at hd
  cases hl : lstI y with
  | none => rw [hl] at hd; cases hd
  | some is =>
    rw [hl] at hd
    cases hm : minI is with
    | none => simp [hm] at hd
    | some m =>
      simp [hm] at hd
      subst hd
      obtain ⟨a, rfl, q⟩ := lstI_inv e r hl
      obtain ⟨h1, h2⟩ := minI_spec hm
      refine cr_min (c.calm hh) pins s σ H _ us Q I rx ⟨a, is, rfl, c.hK ▸ q, by cases is with | nil => cases h1 | cons _ _ => simp, fun m' h3 h4 => ?_⟩
      have e1 : m' = m := by have := h4 m h1; have := h2 m' h3; omega
      subst e1
      exact p.flat (.refl e) rfl
theorem callT_sum : CallT L k (.builtin "sum") (bltD .sum) := callT_1 fun X N sc c hh pins s σ Hf H x us y d F Q I rx e r hd p => by
  unfold sumD at hd
  cases hl : lstI y with
  | none => rw [hl] at hd; cases hd
  | some is =>
    rw [hl] at hd
    cases hd
    obtain ⟨a, rfl, q⟩ := lstI_inv e r hl
    exact cr_sum (c.calm hh) pins s σ H _ us Q I rx ⟨a, is, rfl, c.hK ▸ q, p.flat (.refl e) rfl⟩
theorem callT_abs : CallT L k (.builtin "abs") (bltD .abs) := callT_1 fun X N sc c hh pins s σ Hf H x us y d F Q I rx e r hd p => by
  unfold absD at hd
  split at hd
  · cases hd; have e2 := r.1; subst e2; exact call_abs pins s σ H _ us Q I rx ⟨_, rfl, p.flat (.refl e) rfl⟩
  · cases hd
theorem callT_max2 : CallT L k (.builtin "max") (bltD .max2) := by
  intro X N sc c hh pins s σ H xs us Q I rx ⟨Hf, ds, F, d, e, r, hd, p⟩
  obtain ⟨x, y, rfl, hd2⟩ := two_inv (show two2 max2D ds = some d from hd)
  obtain ⟨v, w, F1, F2, rfl, r1, r2⟩ := repS_2 r
  unfold max2D at hd2
  split at hd2
  · cases hd2; have e1 := r1.1; have e2 := r2.1; subst e1; subst e2; exact call_max2 (c.calm hh) pins s σ H _ us Q I rx ⟨_, _, rfl, p.flat (.refl e) rfl⟩
  · cases hd2
theorem callT_min2 : CallT L k (.builtin "min") (bltD .min2) := by
  intro X N sc c hh pins s σ H xs us Q I rx ⟨Hf, ds, F, d, e, r, hd, p⟩
  obtain ⟨x, y, rfl, hd2⟩ := two_inv (show two2 min2D ds = some d from hd)
  obtain ⟨v, w, F1, F2, rfl, r1, r2⟩ := repS_2 r
  unfold min2D at hd2
  split at hd2
  · cases hd2; have e1 := r1.1; have e2 := r2.1; subst e1; subst e2; exact call_min2 (c.calm hh) pins s σ H _ us Q I rx ⟨_, _, rfl, p.flat (.refl e) rfl⟩
  · cases hd2
/-- the rows for a built-in by its name -/
theorem sem_blt {e : Expr} {es : List Expr} {es' : Es} {b : Bn} {id : String} {x : Str} {p0 pos : Pos} (hc : CallT L k (.builtin id) (bltG L.G b)) (hg : sc.names.lookup x = some .globalImplicit) (hm : L.mg x = none) (hv : bootBuiltins x = some (.builtin id))
    (hn : x ≠ "__name__") (hdb : (x == ("__debug__" : Str)) = false) (hs : ∀ env, starEach (e :: es) env = (false, eval e env) :: starEach es env) (hpl : ∀ pos env, (backTo pos (starEach es env)).any (·.1) = false) (ha : SemA L N sc k (e :: es) es') (hh : sc.hot = false := by rfl) :
    SemE L N sc k (.Call (.Name x p0) (e :: es) [] pos) (.blt b es') := by
  intro X c ρ d fr h Hf0 H0 Hf H σ S Q p
  simp only [ev] at h
  split at h
  · rename_i ds f e1
    cases hd : bltG L.G b ds with
    | none => rw [hd] at h; cases h
    | some d' =>
      rw [hd] at h
      cases h
      exact by_pe (pe_callB (hc X N sc c hh) (show X.env.scope.names.lookup x = some .globalImplicit by rw [c.hsc]; exact hg) (by rw [c.hmg]; exact hm) hv (pa_ _) hn hdb (hs _) (hpl _ _)) (ha X c ρ ds f e1 Hf0 H0 Hf H σ S _ fun vs H1 Hf1 F1 g1 r1 n1 => ⟨Hf1, ds, F1, _, g1.s, r1, hd, p.grow g1⟩)
  · cases h
theorem sem_bltT {e : Expr} {es : List Expr} {es' : Es} {b : Bn} {id : String} {x : Str} {p0 pos : Pos} (hc : CallT L k (.type id) (bltG L.G b)) (hg : sc.names.lookup x = some .globalImplicit) (hm : L.mg x = none) (hv : bootBuiltins x = some (.type id))
    (hn : x ≠ "__name__") (hdb : (x == ("__debug__" : Str)) = false) (hs : ∀ env, starEach (e :: es) env = (false, eval e env) :: starEach es env) (hpl : ∀ pos env, (backTo pos (starEach es env)).any (·.1) = false) (ha : SemA L N sc k (e :: es) es') (hh : sc.hot = false := by rfl) :
    SemE L N sc k (.Call (.Name x p0) (e :: es) [] pos) (.blt b es') := by
  intro X c ρ d fr h Hf0 H0 Hf H σ S Q p
  simp only [ev] at h
  split at h
  · rename_i ds f e1
    cases hd : bltG L.G b ds with
    | none => rw [hd] at h; cases h
    | some d' =>
      rw [hd] at h
      cases h
      exact by_pe (pe_callTy (hc X N sc c hh) (show X.env.scope.names.lookup x = some .globalImplicit by rw [c.hsc]; exact hg) (by rw [c.hmg]; exact hm) hv (pa_ _) hn hdb (hs _) (hpl _ _)) (ha X c ρ ds f e1 Hf0 H0 Hf H σ S _ fun vs H1 Hf1 F1 g1 r1 n1 => ⟨Hf1, ds, F1, _, g1.s, r1, hd, p.grow g1⟩)
  · cases h
end
end Z

/-! Z8: what a loop walks; comprehensions. -/
namespace Z
open PySem PySem.Spec PyProof.Rows L2
open Evl (Ex ex_l ex_t ex_rd)

section
variable {L : Law} {N : List Str} {sc : Sc} {k : Nat}
theorem Cok.gl {X : Cx} (c : Cok L N sc k X) {x : Str} (hg : sc.names.lookup x = some .globalImplicit) : Gl X x := by
  show X.env.scope.names.lookup x = some .globalImplicit
  rw [c.hsc]; exact hg
/-- what is known of an iterator over these items -/
structure ItOk (T : Tab) (Hf H : Hp) (items : List D) (J : L2.It) (H' Hf' : Hp) : Prop where
  gr : Gr Hf H Hf' H'
  walk : ∃ GG Y, Walk J items.length GG Y ∧ (∀ H2, Ex Hf' H2 → GG H2) ∧
    ∀ i d H1 Hf1 x H2, items[i]? = some d → Ex Hf' Hf1 → Ex Hf1 H1 → Y i H1 x H2 → ∃ Hf2, Gr Hf1 H1 Hf2 H2 ∧ rep T Hf2 H2 d x []
def SemI (L : Law) (N : List Str) (sc : Sc) (k : Nat) (tg iter : Expr) (it : It) : Prop :=
  ∀ X, Cok L N sc k X → ∀ ρ items, evI L.G it ρ = some items → ∀ Hf0 H0 Hf H σ, StOk L.T Hf0 H0 Hf H ρ σ →
    ∃ wi, PI X tg iter wi ∧ ∀ R : L2.It → Hp → Prop, (∀ J H' Hf', ItOk L.T Hf H items J H' Hf' → R J H') → wi σ H R
/-- a frozen row, as it is read -/
theorem frozen {T : Tab} {Hf H Hf1 H1 : Hp} {d : D} {v : V} {F : List Addr} (g : Gr Hf H Hf1 H1) (r : rep T Hf1 H1 d v F) (n : New H Hf1 F) : ∃ Hf2, Gr Hf H Hf2 H1 ∧ rep T Hf2 H1 (frz d) v [] ∧ Ex Hf1 Hf2 :=
  ⟨plus Hf1 H1 F, plus_gr g n, rep_frz (plus_ex n.f) _ _ _ (fun a ha o q => plus_in a ha o q) r, plus_ex n.f⟩
theorem frz_seq {T : Tab} {Hf H : Hp} {d : D} {v : V} {ds : List D} (r : rep T Hf H (frz d) v []) (e : seqD (frz d) = some ds) : ∃ a xs, v = .ref a ∧ ((∃ m es, d = .lst m es) ∧ SqL T.K Hf a xs ∨ (∃ es, d = .tup es) ∧ SqT T.K Hf a xs) ∧ repS T Hf H ds xs [] := by
  cases d with
  | lst m es => cases m with
    | own => cases e; obtain ⟨a, xs, e1, _, q, r⟩ := r; exact ⟨a, xs, e1, .inl ⟨⟨_, _, rfl⟩, .inl q⟩, r⟩
    | fz => cases e; obtain ⟨a, xs, e1, _, q, r⟩ := r; exact ⟨a, xs, e1, .inl ⟨⟨_, _, rfl⟩, .inl q⟩, r⟩
    | ro => cases e; obtain ⟨a, xs, e1, _, q, r⟩ := r; exact ⟨a, xs, e1, .inl ⟨⟨_, _, rfl⟩, q⟩, r⟩
  | tup es => cases e; obtain ⟨a, xs, e1, _, q, r⟩ := r; exact ⟨a, xs, e1, .inr ⟨⟨_, rfl⟩, q⟩, r⟩
  | _ => cases e
theorem repS_at {T : Tab} {Hf H : Hp} {ds : List D} {xs : List V} {i : Nat} {d : D} {x : V} (r : repS T Hf H ds xs []) (h : ds[i]? = some d) (hx : xs[i]? = some x) : rep T Hf H d x [] := by
  obtain ⟨v, G, h1, h2, h3⟩ := repS_get r h
  rw [hx] at h1
  cases h1
  have e : G = [] := by
    cases G with
    | nil => rfl
    | cons a b => exact absurd (h3 a List.mem_cons_self) (by simp)
  subst e
  exact h2
theorem itOk_list {T : Tab} {Hf H Hf1 H1 : Hp} {ds : List D} {xs : List V} {a : Addr} (g : Gr Hf H Hf1 H1) (q : SqL T.K Hf1 a xs) (r : repS T Hf1 H1 ds xs []) : ItOk T Hf H ds (Itl T.K a) H1 Hf1 := by
  refine ⟨g, _, _, by rw [← repS_len r]; exact walk_list (xs := xs), fun H2 e => ex_l e q, fun i d H3 Hf3 x H4 hd e1 e2 y => ?_⟩
  obtain ⟨rfl, hx⟩ := y
  exact ⟨Hf3, .refl e2, repS_at (repS_mono e1 _ _ _ (fun _ hb => by cases hb) r) hd hx⟩
theorem itOk_tup {T : Tab} {Hf H Hf1 H1 : Hp} {ds : List D} {xs : List V} {a : Addr} (g : Gr Hf H Hf1 H1) (q : SqT T.K Hf1 a xs) (r : repS T Hf1 H1 ds xs []) : ItOk T Hf H ds (Itt T.K a) H1 Hf1 := by
  refine ⟨g, _, _, by rw [← repS_len r]; exact walk_tup (xs := xs), fun H2 e => ex_t e q, fun i d H3 Hf3 x H4 hd e1 e2 y => ?_⟩
  obtain ⟨rfl, hx⟩ := y
  exact ⟨Hf3, .refl e2, repS_at (repS_mono e1 _ _ _ (fun _ hb => by cases hb) r) hd hx⟩
theorem semI_lst {tg e : Expr} {e' : E} (he : SemE L N sc k e e') : SemI L N sc k tg e (.lst e') := by
  intro X c ρ items h Hf0 H0 Hf H σ S
  simp only [evI] at h
  split at h
  · rename_i d hd
    have seq : (∃ m es, d = .lst m es) ∨ (∃ es, d = .tup es) := by
      cases d with
      | lst m es => exact .inl ⟨_, _, rfl⟩
      | tup es => exact .inr ⟨_, rfl⟩
      | _ => cases h
    rcases seq with ⟨m, es, rfl⟩ | ⟨es, rfl⟩
    · refine ⟨_, pi_list (pe_ e), fun R k2 => he X c ρ _ true hd Hf0 H0 Hf H σ S _ fun v H1 Hf1 F1 g1 r1 n1 => ?_⟩
      obtain ⟨Hf2, g2, r2, e2⟩ := frozen g1 r1 (n1 rfl)
      obtain ⟨a, xs, rfl, hq, r3⟩ := frz_seq r2 h
      rcases hq with ⟨_, q⟩ | ⟨⟨_, z⟩, _⟩
      · exact ⟨a, rfl, ⟨xs, c.hK ▸ ex_l g2.s q⟩, c.hK ▸ k2 _ H1 Hf2 (itOk_list g2 q r3)⟩
      · cases z
    · refine ⟨_, pi_tup (pe_ e), fun R k2 => he X c ρ _ true hd Hf0 H0 Hf H σ S _ fun v H1 Hf1 F1 g1 r1 n1 => ?_⟩
      obtain ⟨Hf2, g2, r2, e2⟩ := frozen g1 r1 (n1 rfl)
      obtain ⟨a, xs, rfl, hq, r3⟩ := frz_seq r2 h
      rcases hq with ⟨⟨_, _, z⟩, _⟩ | ⟨_, q⟩
      · cases z
      · exact ⟨a, rfl, ⟨xs, c.hK ▸ ex_t g2.s q⟩, c.hK ▸ k2 _ H1 Hf2 (itOk_tup g2 q r3)⟩
  · cases h
theorem rngD_len : ∀ (lo : Int) (n : Nat), (rngD lo n).length = n
  | _, 0 => rfl
  | lo, n + 1 => by unfold rngD; rw [List.length_cons, rngD_len]
theorem rngD_get : ∀ (lo : Int) (n i : Nat), i < n → (rngD lo n)[i]? = some (.int (lo + i))
  | _, 0, _, h => absurd h (Nat.not_lt_zero _)
  | lo, n + 1, 0, _ => by unfold rngD; simp
  | lo, n + 1, i + 1, h => by
    unfold rngD
    rw [List.getElem?_cons_succ, rngD_get (lo + 1) n i (Nat.lt_of_succ_lt_succ h)]
    congr 2
    omega
theorem rngOk_c {a b : Int} (h : rngOk a b = true) : -(2 ^ 62) ≤ a ∧ a < 2 ^ 62 ∧ -(2 ^ 62) ≤ b ∧ b < 2 ^ 62 := by
  unfold rngOk at h
  simp only [Bool.and_eq_true, decide_eq_true_eq] at h
  exact ⟨h.1.1.1, h.1.1.2, h.1.2, h.2⟩
theorem itOk_rng {T : Tab} {Hf H Hf1 H1 : Hp} (g : Gr Hf H Hf1 H1) (lo : Int) (n : Nat) : ItOk T Hf H (rngD lo n) (Itr lo n) H1 Hf1 := by
  refine ⟨g, _, _, by rw [rngD_len]; exact walk_range, fun _ _ => trivial, fun i d H3 Hf3 x H4 hd e1 e2 y => ?_⟩
  obtain ⟨rfl, hx⟩ := y
  subst hx
  have hi : i < n := by
    have := (List.getElem?_eq_some_iff.mp hd).1
    rw [rngD_len] at this
    exact this
  rw [rngD_get lo n i hi] at hd
  cases hd
  exact ⟨Hf3, .refl e2, ⟨rfl, rfl⟩⟩
theorem semI_rng1 {tg a : Expr} {a' : E} {p pos : Pos} (hg : sc.names.lookup ("range" : Str) = some .globalImplicit) (hm : L.mg "range" = none) (hs : ∀ env, starEach [a] env = [(false, eval a env)]) (ha : SemE L N sc k a a') :
    SemI L N sc k tg (.Call (.Name "range" p) [a] [] pos) (.rng1 a') := by
  intro X c ρ items h Hf0 H0 Hf H σ S
  simp only [evI] at h
  split at h
  · rename_i j f hd
    split at h
    · rename_i ho
      cases h
      obtain ⟨_, _, o3, o4⟩ := rngOk_c ho
      refine ⟨_, pi_range1 (c.gl hg) (by rw [c.hmg]; exact hm) (pa_cons (pe_ a) pa_nil (by rw [hs]; rfl)) (hs _), fun R k2 =>
        ha X c ρ _ f hd Hf0 H0 Hf H σ S _ fun v H1 Hf1 F1 g1 r1 n1 => ⟨j, by rw [r1.1], o3, o4, k2 _ H1 Hf1 (itOk_rng g1 0 _)⟩⟩
    · cases h
  · cases h
theorem semI_rng2 {tg a b : Expr} {a' b' : E} {p pos : Pos} (hg : sc.names.lookup ("range" : Str) = some .globalImplicit) (hm : L.mg "range" = none) (hs : ∀ env, starEach [a, b] env = [(false, eval a env), (false, eval b env)]) (hs2 : ∀ env, starEach [b] env = [(false, eval b env)])
    (ha : SemE L N sc k a a') (hb : SemE L N sc k b b') : SemI L N sc k tg (.Call (.Name "range" p) [a, b] [] pos) (.rng2 a' b') := by
  intro X c ρ items h Hf0 H0 Hf H σ S
  simp only [evI] at h
  split at h
  · rename_i i f1 j f2 h1 h2
    split at h
    · rename_i ho
      cases h
      obtain ⟨o1, o2, o3, o4⟩ := rngOk_c ho
      refine ⟨_, pi_range2 (c.gl hg) (by rw [c.hmg]; exact hm) (pa_cons (pe_ a) (pa_cons (pe_ b) pa_nil (by rw [hs2]; rfl)) (by rw [hs, hs2])) (hs _) (hs2 _), fun R k2 =>
        two ha hb c h1 h2 S fun v u H1 Hf1 F1 F2 g1 r1 r2 => ⟨i, j, by rw [r1.1, r2.1], ⟨o1, o2, o3, o4⟩, k2 _ H1 Hf1 (itOk_rng g1 i _)⟩⟩
    · cases h
  · cases h
theorem enumD_get : ∀ (c : Int) (ds : List D) (i : Nat), (enumD c ds)[i]? = (ds[i]?).map fun d => .tup [.int (c + i), d]
  | _, [], _ => rfl
  | c, d :: r, 0 => by simp [enumD]
  | c, d :: r, i + 1 => by
    unfold enumD
    rw [List.getElem?_cons_succ, List.getElem?_cons_succ, enumD_get (c + 1) r i]
    have e : c + 1 + (i : Int) = c + ((i + 1 : Nat) : Int) := by omega
    rw [e]
theorem enumD_len : ∀ (c : Int) (ds : List D), (enumD c ds).length = ds.length
  | _, [] => rfl
  | c, d :: r => by unfold enumD; rw [List.length_cons, List.length_cons, enumD_len]
/-- a new pair of two frozen things -/
theorem pair_new {T : Tab} {Hf H : Hp} {x y : V} {d e : D} {a : Addr} (s : Ex Hf H) (ha : H a = none) (r1 : rep T Hf H d x []) (r2 : rep T Hf H e y []) : Gr Hf H (upd Hf a (.tup [x, y])) (upd H a (.tup [x, y])) ∧ rep T (upd Hf a (.tup [x, y])) (upd H a (.tup [x, y])) (.tup [d, e]) (.ref a) [] := by
  have g : Gr Hf H (upd Hf a (.tup [x, y])) (upd H a (.tup [x, y])) := .pushF s ha
  exact ⟨g, a, [x, y], rfl, rfl, .of upd_same, x, [y], [], [], rfl, rfl, rep_mono g.f _ _ _ (fun _ hb => by cases hb) r1, y, [], [], [], rfl, rfl, rep_mono g.f _ _ _ (fun _ hb => by cases hb) r2, rfl, rfl⟩
theorem semI_enumL {elts : List Expr} {kk : Nat} {tpos : Pos} {e : Expr} {e' : E} {p pos : Pos} (hg : sc.names.lookup ("enumerate" : Str) = some .globalImplicit) (hm : L.mg "enumerate" = none) (hs : ∀ env, starEach [e] env = [(false, eval e env)]) (he : SemE L N sc k e e')
    (X : Cx) (c : Cok L N sc k X) {ρ : Rho} {m : M} {es ds : List D} (hd : ev L.G e' ρ = some (.lst m es, true)) (h : seqD (frz (.lst m es)) = some ds) {Hf0 H0 Hf H : Hp} {σ : L2.St} (S : StOk L.T Hf0 H0 Hf H ρ σ) :
    ∃ wi, PI X (.Tuple elts kk tpos) (.Call (.Name "enumerate" p) [e] [] pos) wi ∧ ∀ R : L2.It → Hp → Prop, (∀ J H' Hf', ItOk L.T Hf H (enumD 0 ds) J H' Hf' → R J H') → wi σ H R := by
  refine ⟨_, pi_enum (c.gl hg) (by rw [c.hmg]; exact hm) (pa_cons (pe_ e) pa_nil (by rw [hs]; rfl)) (hs _), fun R k2 =>
    he X c ρ _ true hd Hf0 H0 Hf H σ S _ fun v H1 Hf1 F1 g1 r1 n1 => ?_⟩
  obtain ⟨Hf2, g2, r2, e2⟩ := frozen g1 r1 (n1 rfl)
  obtain ⟨a, xs, rfl, hq, r3⟩ := frz_seq r2 h
  rcases hq with ⟨_, q⟩ | ⟨⟨_, z⟩, _⟩
  · refine ⟨a, xs, rfl, c.hK ▸ ex_l g2.s q, c.hK ▸ k2 _ H1 Hf2 ⟨g2, _, _, by rw [enumD_len, ← repS_len r3]; exact walk_enum (xs := xs), fun H2 e => ex_l e q, fun i d H3 Hf3 x H4 hd e1 e2 y => ?_⟩⟩
    obtain ⟨t, x1, x2, rfl, ht, rfl, h1, h2⟩ := y
    cases h1
    rw [enumD_get] at hd
    cases hi : ds[i]? with
    | none => rw [hi] at hd; cases hd
    | some d0 =>
      rw [hi] at hd
      have hd' : D.tup [.int (0 + (i : Int)), d0] = d := by simpa using hd
      subst hd'
      have e0 : (0 : Int) + (i : Int) = (i : Nat) := by omega
      rw [e0]
      have r4 := repS_at (repS_mono (H' := H3) e1 _ _ _ (fun _ hb => by cases hb) r3) hi h2
      obtain ⟨g5, r5⟩ := pair_new e2 ht (T := L.T) (d := .int (i : Nat)) ⟨rfl, rfl⟩ r4
      exact ⟨_, g5, r5⟩
  · cases z
theorem zipD_get : ∀ (ds es : List D) (i : Nat) (x y : D), ds[i]? = some x → es[i]? = some y → (zipD ds es)[i]? = some (.tup [x, y])
  | [], _, _, _, _, h, _ => by simp at h
  | _ :: _, [], _, _, _, _, h => by simp at h
  | d :: ds, e :: es, 0, x, y, h1, h2 => by cases h1; cases h2; rfl
  | d :: ds, e :: es, i + 1, x, y, h1, h2 => by
    show (zipD ds es)[i]? = _
    exact zipD_get ds es i x y (by simpa using h1) (by simpa using h2)
theorem zipD_len : ∀ ds es : List D, (zipD ds es).length = min ds.length es.length
  | [], _ => by simp [zipD]
  | _ :: _, [] => by simp [zipD]
  | d :: ds, e :: es => by
    show (zipD ds es).length + 1 = _
    rw [zipD_len ds es]
    simp only [List.length_cons]
    omega
theorem semI_zipL {elts : List Expr} {kk : Nat} {tpos : Pos} {a b : Expr} {a' b' : E} {p pos : Pos} (hg : sc.names.lookup ("zip" : Str) = some .globalImplicit) (hm : L.mg "zip" = none) (hs : ∀ env, starEach [a, b] env = (false, eval a env) :: starEach [b] env) (hs2 : ∀ env, starEach [b] env = [(false, eval b env)])
    (hpl : ∀ pos env, (backTo pos (starEach [b] env)).any (·.1) = false) (ha : SemE L N sc k a a') (hb : SemE L N sc k b b')
    (X : Cx) (c : Cok L N sc k X) {ρ : Rho} {m m' : M} {as bs ds es : List D} (h1 : ev L.G a' ρ = some (.lst m as, true)) (h2 : ev L.G b' ρ = some (.lst m' bs, true)) (e1 : seqD (frz (.lst m as)) = some ds) (e2 : seqD (frz (.lst m' bs)) = some es)
    {Hf0 H0 Hf H : Hp} {σ : L2.St} (S : StOk L.T Hf0 H0 Hf H ρ σ) :
    ∃ wi, PI X (.Tuple elts kk tpos) (.Call (.Name "zip" p) [a, b] [] pos) wi ∧ ∀ R : L2.It → Hp → Prop, (∀ J H' Hf', ItOk L.T Hf H (zipD ds es) J H' Hf' → R J H') → wi σ H R := by
  refine ⟨_, pi_zip (c.gl hg) (by rw [c.hmg]; exact hm) (pa_cons (pe_ a) (pa_cons (pe_ b) pa_nil (by rw [hs2]; rfl)) (hs _)) (hs _) (hpl _ _), fun R k2 =>
    ha X c ρ _ true h1 Hf0 H0 Hf H σ S _ fun v H1 Hf1 F1 g1 r1 n1 => hb X c ρ _ true h2 Hf0 H0 Hf1 H1 σ (S.grow g1) _ fun u H2 Hf2 F2 g2 r2 n2 => ?_⟩
  have r1' := rep_mono g2.f _ _ _ (fun a _ o q => g2.e a o q) r1
  have n1' := (n1 rfl).grow g2 (rep_dom _ _ _ r1)
  have nn : New H Hf2 (F1 ++ F2) := New.append (Hf := Hf) (Hf1 := Hf1) g1.e n1' (rep_dom _ _ _ r1) (n2 rfl)
  have r0 : repS L.T Hf2 H2 [.lst m as, .lst m' bs] [v, u] (F1 ++ F2) := ⟨v, [u], F1, F2, rfl, rfl, r1', u, [], F2, [], rfl, by rw [List.append_nil], r2, rfl, rfl⟩
  have g3 := plus_gr (g1.trans g2) nn
  have r3 : repS L.T (plus Hf2 H2 (F1 ++ F2)) H2 (frzS [.lst m as, .lst m' bs]) [v, u] [] := repS_frz (plus_ex nn.f) _ _ _ (fun a ha o q => plus_in a ha o q) r0
  obtain ⟨v', w', G1, G2, ev, rv, rw'⟩ := repS_2 r3
  cases ev
  have z1 := fz_nil rv (frz_fz _)
  have z2 := fz_nil rw' (frz_fz _)
  subst z1; subst z2
  obtain ⟨a1, xs, rfl, hq1, q1⟩ := frz_seq rv e1
  obtain ⟨a2, ys, rfl, hq2, q2⟩ := frz_seq rw' e2
  rcases hq1 with ⟨_, hq1⟩ | ⟨⟨_, z⟩, _⟩
  · rcases hq2 with ⟨_, hq2⟩ | ⟨⟨_, z⟩, _⟩
    · have ok : ItOk L.T Hf H (zipD ds es) (Itz L.T.K a1 a2) H2 (plus Hf2 H2 (F1 ++ F2)) := by
        refine ⟨g3, _, _, by rw [zipD_len]; exact walk_zip (xs := xs) (ys := ys) (by rw [repS_len q1, repS_len q2]), fun H4 e => And.intro (ex_l e hq1) (ex_l e hq2), fun i d H3 Hf3 x H4 hd e3 e4 y => ?_⟩
        obtain ⟨t, x1, x2, rfl, ht, rfl, h3, h4⟩ := y
        have l1 := (List.getElem?_eq_some_iff.mp h3).1
        have l2 := (List.getElem?_eq_some_iff.mp h4).1
        rw [repS_len q1] at l1
        rw [repS_len q2] at l2
        have d1 : ds[i]? = some ds[i] := List.getElem?_eq_getElem l1
        have d2 : es[i]? = some es[i] := List.getElem?_eq_getElem l2
        rw [zipD_get ds es i _ _ d1 d2] at hd
        cases hd
        obtain ⟨g5, r5⟩ := pair_new e4 ht (T := L.T) (repS_at (repS_mono (H' := H3) e3 _ _ _ (fun _ hb => by cases hb) q1) d1 h3) (repS_at (repS_mono (H' := H3) e3 _ _ _ (fun _ hb => by cases hb) q2) d2 h4)
        exact ⟨_, g5, r5⟩
      exact ⟨a1, a2, xs, ys, rfl, c.hK ▸ ex_l g3.s hq1, c.hK ▸ ex_l g3.s hq2, by rw [c.hK]; exact k2 _ H2 _ ok⟩
    · cases z
  · cases z
end
end Z

/-! Z9: targets, comprehensions. -/
namespace Z
open PySem PySem.Spec PyProof.Rows L2
open Evl (Ex ex_l ex_t ex_rd)

section
variable {T : Tab} {Hf H : Hp}
theorem repE_unset : ∀ {ρ : Rho} {σ : L2.St} {F : List Addr} (i : Nat), repE T Hf H ρ σ F → ∃ F', repE T Hf H (ρ.set i none) (σ.set i none) F' ∧ F'.Sublist F
  | [], _, _, i, h => by obtain ⟨rfl, rfl⟩ := h; exact ⟨[], ⟨rfl, rfl⟩, .slnil⟩
  | none :: ρ, _, F, 0, ⟨w, τ, e, q⟩ => by subst e; exact ⟨F, ⟨none, τ, rfl, q⟩, .refl _⟩
  | some d :: ρ, _, F, 0, ⟨v, τ, F1, F2, e, f, r, q⟩ => by subst e; subst f; exact ⟨F2, ⟨none, τ, rfl, q⟩, List.sublist_append_right _ _⟩
  | none :: ρ, _, F, i + 1, ⟨w, τ, e, q⟩ => by
    subst e
    obtain ⟨F', q', s⟩ := repE_unset i q
    exact ⟨F', ⟨w, _, rfl, q'⟩, s⟩
  | some d :: ρ, _, F, i + 1, ⟨v, τ, F1, F2, e, f, r, q⟩ => by
    subst e; subst f
    obtain ⟨F', q', s⟩ := repE_unset i q
    exact ⟨F1 ++ F', ⟨v, _, F1, F', rfl, rfl, r, q'⟩, s.append_left _⟩
theorem New.sub {H0 Hf : Hp} {F G : List Addr} (n : New H0 Hf F) (s : G.Sublist F) : New H0 Hf G := ⟨n.nd.sublist s, fun a h => n.h a (s.subset h), fun a h => n.f a (s.subset h)⟩
theorem StOk.wipe {Hf0 H0 : Hp} {ρ : Rho} {σ : L2.St} (S : StOk T Hf0 H0 Hf H ρ σ) : ∀ vs : List Nat, StOk T Hf0 H0 Hf H (wipeR ρ vs) (L2.wipe σ vs)
  | [] => S
  | v :: vs => by
    have S1 := StOk.wipe S vs
    obtain ⟨F, r, n⟩ := S1.own
    obtain ⟨F', r', s⟩ := repE_unset v r
    exact ⟨S1.gr, F', r', n.sub s⟩
theorem wipe_set {σ : L2.St} {i : Nat} {a : Option V} : ∀ {vs : List Nat}, i ∈ vs → L2.wipe (σ.set i a) vs = L2.wipe σ vs
  | [], h => by cases h
  | v :: vs, h => by
    unfold L2.wipe
    by_cases hv : i = v
    · subst hv
      by_cases hm : i ∈ vs
      · rw [wipe_set hm]
      · have go : ∀ {vs : List Nat}, i ∉ vs → L2.wipe (σ.set i a) vs = (L2.wipe σ vs).set i a := by
          intro vs
          induction vs with
          | nil => intro _; rfl
          | cons u us ih =>
            intro hu
            unfold L2.wipe
            rw [ih (fun z => hu (List.mem_cons_of_mem _ z)), List.set_comm _ _ (fun z => hu (by rw [z]; exact List.mem_cons_self))]
        rw [go hm, List.set_set]
    · rcases List.mem_cons.mp h with z | z
      · exact absurd z hv
      · rw [wipe_set z]
end

mutual
/-- the slots of a target stand among vs -/
def tgIn (vs : List Nat) : Tg → Bool
  | .name i => decide (i ∈ vs)
  | .tup ts => tgsIn vs ts
def tgsIn (vs : List Nat) : List Tg → Bool
  | [] => true
  | t :: ts => tgIn vs t && tgsIn vs ts
end
section
variable {L : Law} {N : List Str} {sc : Sc} {k : Nat}
def tGs (X : Cx) (ts : List Expr) : TGs := fun vs σ H Q => ∀ pins s us, Inv X pins σ H s → Vals vs us → wpAny (model X.prog X.w) X.A (assignInOrder ((assignEach ts X.env).map (·.2)) us) (fun _ s' => ∃ σ' H', Inv X pins σ' H' s' ∧ Q σ' H') X.xe s
theorem pgs_ {X : Cx} (ts : List Expr) : PGs X ts (tGs X ts) := ⟨fun pins s _ _ _ _ _ I r h => h pins s _ I r⟩
theorem by_pgs {X : Cx} {e : List Expr} {t : TGs} {v : List V} {σ : L2.St} {H : Hp} {Q : L2.St → Hp → Prop} (p : PGs X e t) (h : t v σ H Q) : tGs X e v σ H Q := fun pins s u I r => p.run pins s σ H v u Q I r h
def SemG (L : Law) (N : List Str) (sc : Sc) (k : Nat) (tg : Expr) (t : Tg) : Prop :=
  ∀ X, Cok L N sc k X → ∀ d ρ ρ', bindT t d ρ = some ρ' → ∀ Hf0 H0 Hfp Hp Hf H σ v F, StOk L.T Hf0 H0 Hfp Hp ρ σ → Gr Hfp Hp Hf H → rep L.T Hf H d v F → New Hp Hf F → ∀ Q : L2.St → L2.Hp → Prop,
    (∀ σ', StOk L.T Hf0 H0 Hf H ρ' σ' → (∀ vs, tgIn vs t = true → L2.wipe σ' vs = L2.wipe σ vs) → Q σ' H) → tG X tg v σ H Q
def SemGs (L : Law) (N : List Str) (sc : Sc) (k : Nat) (tgs : List Expr) (ts : List Tg) : Prop :=
  ∀ X, Cok L N sc k X → ∀ ds ρ ρ', bindTs ts ds ρ = some ρ' → ∀ Hf0 H0 Hf H σ xs, StOk L.T Hf0 H0 Hf H ρ σ → repS L.T Hf H ds xs [] → ∀ Q : L2.St → L2.Hp → Prop,
    (∀ σ', StOk L.T Hf0 H0 Hf H ρ' σ' → (∀ vs, tgsIn vs ts = true → L2.wipe σ' vs = L2.wipe σ vs) → Q σ' H) → tGs X tgs xs σ H Q
theorem semG_name {i : Nat} {x : Str} {pos : Pos} (hN : N[i]? = some x) (hx : sc.names.lookup x = some .local ∨ (sc.names.lookup x = some .cell ∧ sc.fnb x = true)) : SemG L N sc k (.Name x pos) (.name i) := by
  intro X c d ρ ρ' h Hf0 H0 Hfp Hp Hf H σ v F S g r n Q q
  cases h
  have loc : Loc X.env.scope x := by
    rw [c.hsc]
    rcases hx with h | h
    · exact .inl h
    · exact .inr h.1
  have hf : X.fn x = true ∨ X.env.scope.names.lookup x = some .local := by
    rw [c.hsc]
    rcases hx with h | h
    · exact .inr h
    · exact .inl (c.fn x h.2)
  refine by_pg (pg_name (i := i) (by rw [c.hN]; exact c.nd) (by rw [c.hN]; exact hN) loc hf) ?_
  exact q _ (S.set i g r n) fun vs hv => wipe_set (of_decide_eq_true hv)
theorem semGs_nil : SemGs L N sc k [] [] := by
  intro X c ds ρ ρ' h Hf0 H0 Hf H σ xs S r Q q
  cases ds with
  | nil => cases h; exact by_pgs pgs_nil ⟨r.1, q _ S fun _ _ => rfl⟩
  | cons _ _ => cases h
theorem semGs_cons {e : Expr} {es : List Expr} {t : Tg} {ts : List Tg} (hs : ∀ env, (assignEach (e :: es) env).map (·.2) = assign e env :: (assignEach es env).map (·.2)) (he : SemG L N sc k e t) (hr : SemGs L N sc k es ts) : SemGs L N sc k (e :: es) (t :: ts) := by
  intro X c ds ρ ρ' h Hf0 H0 Hf H σ xs S r Q q
  cases ds with
  | nil => cases h
  | cons d ds =>
    obtain ⟨v, vs, F1, F2, e1, f, r1, r2⟩ := r
    subst e1
    have e2 : F1 = [] ∧ F2 = [] := by
      cases F1 with
      | nil => exact ⟨rfl, f.symm⟩
      | cons a b => cases f
    obtain ⟨e2, e3⟩ := e2
    subst e2; subst e3
    have h' : ((bindT t d ρ).bind fun ρ1 => bindTs ts ds ρ1) = some ρ' := h
    cases hb : bindT t d ρ with
    | none => rw [hb] at h'; cases h'
    | some ρ1 =>
      rw [hb] at h'
      refine by_pgs (pgs_cons (pg_ e) (pgs_ es) (hs _)) ⟨v, vs, rfl, he X c d ρ ρ1 hb Hf0 H0 Hf H Hf H σ v [] S (.refl S.sub) r1 New.nil _ fun σ1 S1 w1 => ?_⟩
      refine hr X c ds ρ1 ρ' h' Hf0 H0 Hf H σ1 vs S1 r2 Q fun σ2 S2 w2 => q σ2 S2 fun us hu => ?_
      have hu' : tgIn us t = true ∧ tgsIn us ts = true := by simpa [tgsIn] using hu
      rw [w2 us hu'.2, w1 us hu'.1]
theorem semG_tup {es : List Expr} {kk : Nat} {ts : List Tg} {pos : Pos} (hn : ∀ env, (assignEach es env).length = ts.length) (hst : ∀ env, (assignEach es env).findIdx? (·.1) = none) (h : SemGs L N sc k es ts) (hh : sc.hot = false := by rfl) : SemG L N sc k (.Tuple es kk pos) (.tup ts) := by
  intro X c d ρ ρ' hb Hf0 H0 Hfp Hp Hf H σ v F S g r n Q q
  cases d with
  | tup ds =>
    have hb' : bindTs ts ds ρ = some ρ' := hb
    have S' := S.grow g
    obtain ⟨a, xs, rfl, hq, r'⟩ := rep_tup g.s r
    have len : ∀ {ts : List Tg} {ds : List D} {ρ ρ' : Rho}, bindTs ts ds ρ = some ρ' → ds.length = ts.length := by
      intro ts
      induction ts with
      | nil => intro ds ρ ρ' h; cases ds with | nil => rfl | cons _ _ => cases h
      | cons t ts ih =>
        intro ds ρ ρ' h
        cases ds with
        | nil => cases h
        | cons d ds =>
          have h' : ((bindT t d ρ).bind fun ρ1 => bindTs ts ds ρ1) = some ρ' := h
          cases hb : bindT t d ρ with
          | none => rw [hb] at h'; cases h'
          | some ρ1 =>
            rw [hb] at h'
            rw [List.length_cons, List.length_cons, ih h']
    refine by_pg (pg_tup (n := ts.length) (c.calm hh) (pgs_ es) (hn _) (hst _)) ⟨a, xs, rfl, c.hK ▸ hq, by rw [repS_len r', len hb'], ?_⟩
    exact h X c ds ρ ρ' hb' Hf0 H0 Hf H σ xs S' r' Q fun σ' S2 w => q σ' S2 w
  | _ => cases hb

/-! ### comprehensions -/
/-- the tests of a comprehension (none or one) -/
def SemC (L : Law) (N : List Str) (sc : Sc) (k : Nat) (ifs : List Expr) (ifs' : Es) : Prop :=
  (ifs = [] ∧ ifs' = .nil) ∨ ∃ e e', ifs = [e] ∧ ifs' = .cons e' .nil ∧ SemT L N sc k e e'
/-- the block's own scope -/
def blkSc (sc : Sc) (scope : Scope) : Sc := { relS scope sc.toScope with fnb := fun x => scope.names.lookup x == some .cell, hot := sc.hot }
theorem Cok.blk {X : Cx} (c : Cok L N sc k X) {s : Shared} {H : Hp} {scope : Scope} {cl : List (Str × Addr)} {C : Addr} {fp : List Addr} : Cok L N (blkSc sc scope) k (X.blk s H scope (compEnvC scope cl C X.env) fp) where
  prog := c.prog
  hw := c.hw
  hbase := c.hbase
  hmg := c.hmg
  hK := c.hK
  hN := c.hN
  hsc := by
    show relS scope X.env.scope = relS scope sc.toScope
    rw [c.hsc]
  fn := fun x h => h
  nd := c.nd
  calm := c.calm
  room := c.room
  xe := rfl
theorem evT_one {G : Gd} {e' : E} {ρ : Rho} : evT G (.cons e' .nil) ρ = test G e' ρ := by
  cases h : ev G e' ρ with
  | none => simp [evT, test, h]
  | some p =>
    obtain ⟨d, f⟩ := p
    simp only [evT, test, h]
    cases truD d with
    | none => rfl
    | some b => cases b <;> rfl
theorem compD_cons {f : D → Option (Option D)} {d : D} {r : List D} {ds : List D} (h : compD f (d :: r) = some ds) : (∃ x ys, f d = some (some x) ∧ compD f r = some ys ∧ ds = x :: ys) ∨ (f d = some none ∧ compD f r = some ds) := by
  simp only [compD] at h
  split at h
  · rename_i x ys e1 e2; cases h; exact .inl ⟨x, ys, e1, e2, rfl⟩
  · rename_i ys e1 e2; cases h; exact .inr ⟨e1, e2⟩
  · cases h
/-- the parts of a comprehension's result: behind i items -/
theorem compD_take {f : D → Option (Option D)} : ∀ {items : List D} {ds : List D} (i : Nat), compD f items = some ds → i < items.length → ∃ d a, items[i]? = some d ∧ compD f (items.take i) = some a ∧
    ((∃ x, f d = some (some x) ∧ compD f (items.take (i + 1)) = some (a ++ [x])) ∨ (f d = some none ∧ compD f (items.take (i + 1)) = some a))
  | [], _, _, _, hi => absurd hi (by simp)
  | d :: r, ds, 0, h, _ => by
    refine ⟨d, [], rfl, rfl, ?_⟩
    rcases compD_cons h with ⟨x, ys, e1, e2, _⟩ | ⟨e1, e2⟩
    · exact .inl ⟨x, e1, by simp [compD, e1]⟩
    · exact .inr ⟨e1, by simp [compD, e1]⟩
  | d :: r, ds, i + 1, h, hi => by
    have hi' : i < r.length := by simpa using hi
    rcases compD_cons h with ⟨x, ys, e1, e2, _⟩ | ⟨e1, e2⟩
    · obtain ⟨d', a, h1, h2, h3⟩ := compD_take i e2 hi'
      refine ⟨d', x :: a, h1, by simp [compD, e1, h2], ?_⟩
      rcases h3 with ⟨y, h4, h5⟩ | ⟨h4, h5⟩
      · exact .inl ⟨y, h4, by simp [compD, e1, h5]⟩
      · exact .inr ⟨h4, by simp [compD, e1, h5]⟩
    · obtain ⟨d', a, h1, h2, h3⟩ := compD_take i e2 hi'
      refine ⟨d', a, h1, by simp [compD, e1, h2], ?_⟩
      rcases h3 with ⟨y, h4, h5⟩ | ⟨h4, h5⟩
      · exact .inl ⟨y, h4, by simp [compD, e1, h5]⟩
      · exact .inr ⟨h4, by simp [compD, e1, h5]⟩
theorem compD_le {f : D → Option (Option D)} : ∀ {items ds : List D}, compD f items = some ds → ds.length ≤ items.length
  | [], _, h => by cases h; simp
  | d :: r, ds, h => by
    rcases compD_cons h with ⟨x, ys, e1, e2, rfl⟩ | ⟨e1, e2⟩
    · have := compD_le e2; simp; omega
    · have := compD_le e2; simp; omega

/-- what a comprehension does with an item -/
def lcF (G : Gd) (vs : List Nat) (elt : E) (tg : Tg) (ifs : Es) (ρ : Rho) : D → Option (Option D) := fun d => match bindT tg d (wipeR ρ vs) with
  | some ρ' => match evT G ifs ρ' with
    | some true => match ev G elt ρ' with
      | some (x, true) => some (some x)
      | _ => none
    | some false => some none
    | none => none
  | none => none
section
variable {L : Law} {N : List Str} {sc : Sc} {k : Nat}
theorem lcF_inv {G : Gd} {vs : List Nat} {elt : E} {tg : Tg} {ifs : Es} {ρ : Rho} {d : D} {o : Option D} (h : lcF G vs elt tg ifs ρ d = some o) : ∃ ρ', bindT tg d (wipeR ρ vs) = some ρ' ∧
    ((∃ x, o = some x ∧ evT G ifs ρ' = some true ∧ ev G elt ρ' = some (x, true)) ∨ (o = none ∧ evT G ifs ρ' = some false)) := by
  unfold lcF at h
  split at h
  · rename_i ρ' hb
    refine ⟨ρ', hb, ?_⟩
    split at h
    · rename_i ht
      split at h
      · rename_i x he; cases h; exact .inl ⟨x, rfl, ht, he⟩
      · cases h
    · rename_i ht; cases h; exact .inr ⟨rfl, ht⟩
    · cases h
  · cases h
/-- a comprehension, in the layer's own terms -/
theorem lc_all {elt tg iter : Expr} {ifs : List Expr} {scope : Scope} {own : List (Str × Nat)} {vs : List Nat} {elt' : E} {t' : Tg} {it' : It} {ifs' : Es} (hit : SemI L N sc k tg iter it') (hvs : own.map (·.2) = vs) (htg : tgIn vs t' = true)
    (hg : SemG L N (blkSc sc scope) k tg t') (hif : SemC L N (blkSc sc scope) k ifs ifs') (he : SemE L N (blkSc sc scope) k elt elt') {X : Cx} (c : Cok L N sc k X) {ρ : Rho} {items ds : List D} (h1 : evI L.G it' ρ = some items) (hz : items.length ≤ 40000)
    (h2 : compD (lcF L.G vs elt' t' ifs' ρ) items = some ds) {Hf0 H0 Hf H : Hp} {σ : L2.St} (S : StOk L.T Hf0 H0 Hf H ρ σ) :
    ∃ wi g tt te, PI X tg iter wi ∧ (∀ (s : Shared) (H : Hp) (C : Addr) (cl : List (Str × Addr)) (fp : List Addr), PG (X.blk s H scope (compEnvC scope cl C X.env) fp) tg g) ∧ (∀ (s : Shared) (H : Hp) (C : Addr) (cl : List (Str × Addr)) (fp : List Addr), PTs (X.blk s H scope (compEnvC scope cl C X.env) fp) ifs tt) ∧
      (∀ (s : Shared) (H : Hp) (C : Addr) (cl : List (Str × Addr)) (fp : List Addr), PE (X.blk s H scope (compEnvC scope cl C X.env) fp) elt te) ∧ ∀ Q : VK, Post L.T Hf H (.lst .own ds) true Q → tLc wi g tt te (own.map (·.2)) σ H Q := by
  obtain ⟨wi, hwi, kwi⟩ := hit X c ρ items h1 Hf0 H0 Hf H σ S
  have hT : ∃ tt : TT, (∀ (s : Shared) (H : Hp) (C : Addr) (cl : List (Str × Addr)) (fp : List Addr), PTs (X.blk s H scope (compEnvC scope cl C X.env) fp) ifs tt) ∧
      ∀ ρ' b, evT L.G ifs' ρ' = some b → ∀ Hf0 H0 Hf H σ, StOk L.T Hf0 H0 Hf H ρ' σ → ∀ Q : Bool → Hp → Prop, (∀ H' Hf', Gr Hf H Hf' H' → Q b H') → tt σ H Q := by
    rcases hif with ⟨e1, e2⟩ | ⟨e, e', e1, e2, he⟩
    · subst e1; subst e2
      refine ⟨_, fun s H C cl fp => pts_nil, fun ρ' b hb Hf0 H0 Hf H σ S Q q => ?_⟩
      cases hb
      exact q H Hf (.refl S.sub)
    · subst e1; subst e2
      refine ⟨fun σ H Q => ∀ Y, Cok L N (blkSc sc scope) k Y → tT Y e σ H Q, fun s H C cl fp => pts_one ⟨fun pins s1 σ H1 Q I hw => hw _ c.blk pins s1 I⟩, fun ρ' b hb Hf0 H0 Hf H σ S Q q Y cY => ?_⟩
      rw [evT_one] at hb
      exact he Y cY ρ' b hb Hf0 H0 Hf H σ S Q q
  obtain ⟨tt, htt, ktt⟩ := hT
  refine ⟨wi, fun v σ H Q => ∀ Y, Cok L N (blkSc sc scope) k Y → tG Y tg v σ H Q, tt, fun σ H Q => ∀ Y, Cok L N (blkSc sc scope) k Y → tE Y elt σ H Q, hwi,
    fun s H C cl fp => ⟨fun pins s1 σ H1 v u Q I r hw => hw _ c.blk pins s1 u I r⟩, htt, fun s H C cl fp => ⟨fun pins s1 σ H1 Q I hw => hw _ c.blk pins s1 I⟩, fun Q p => ?_⟩
  refine kwi _ fun J H1 Hf1 ok D hD => ?_
  obtain ⟨g1, GG, Y, hw, hGG, hY⟩ := ok
  rw [hvs]
  refine lc_it (g := fun v σ H Q => ∀ Y, Cok L N (blkSc sc scope) k Y → tG Y tg v σ H Q) (tt := tt) (te := fun σ H Q => ∀ Y, Cok L N (blkSc sc scope) k Y → tE Y elt σ H Q) (vs := vs) (σ := σ) (H1 := H1) (D := D) (Qd := fun H => Q (.ref D) H) hw (fun i H' => ∃ a Hf' xs F, compD (lcF L.G vs elt' t' ifs' ρ) (items.take i) = some a ∧ Gr Hf1 H1 Hf' H' ∧ H' D = some (.lst xs) ∧ repS L.T Hf' H' a xs F ∧ New H1 Hf' (D :: F)) ?_ ?_ ?_ ?_
  · exact ⟨[], Hf1, [], [], rfl, .push g1.s hD, upd_same, ⟨rfl, rfl⟩, New.upd hD (hf_none g1.s hD)⟩
  · rintro i H' _ ⟨a, Hf', xs, F, _, g, _⟩
    exact hGG H' fun b o q => g.s b o (g.f b o q)
  · rintro i x H2 H3 hi ⟨a, Hf2, xs, F, ha, g2, hxs, ra, na⟩ hy
    obtain ⟨d, a', hd, ha', hstep⟩ := compD_take i h2 hi
    rw [ha] at ha'
    cases ha'
    obtain ⟨Hf3, g3, r3⟩ := hY i d H2 Hf2 x H3 hd g2.f g2.s hy
    have fd : ∃ o, lcF L.G vs elt' t' ifs' ρ d = some o := by
      rcases hstep with ⟨y, h4, _⟩ | ⟨h4, _⟩
      · exact ⟨_, h4⟩
      · exact ⟨_, h4⟩
    obtain ⟨o, ho⟩ := fd
    obtain ⟨ρ', hb, hcase⟩ := lcF_inv ho
    have S3 : StOk L.T Hf0 H0 Hf3 H3 (wipeR ρ vs) (L2.wipe σ vs) := (((S.grow g1).grow g2).grow g3).wipe vs
    intro Y1 cY1
    refine hg Y1 cY1 d _ ρ' hb Hf0 H0 Hf3 H3 Hf3 H3 _ x [] S3 (.refl g3.s) r3 New.nil _ fun σ2 S4 w4 => ⟨?_, ?_⟩
    · rw [w4 vs htg]
      have ww : ∀ us : List Nat, (∀ j ∈ us, j ∈ vs) → L2.wipe (L2.wipe σ vs) us = L2.wipe σ vs := by
        intro us
        induction us with
        | nil => intro _; rfl
        | cons u us ih =>
          intro hu
          have e := ih fun j hj => hu j (List.mem_cons_of_mem _ hj)
          show (L2.wipe (L2.wipe σ vs) us).set u none = _
          rw [e]
          have hm := hu u List.mem_cons_self
          have : ∀ vs : List Nat, u ∈ vs → (L2.wipe σ vs).set u none = L2.wipe σ vs := by
            intro vs
            induction vs with
            | nil => intro h; cases h
            | cons v vs ih2 =>
              intro h
              show ((L2.wipe σ vs).set v none).set u none = (L2.wipe σ vs).set v none
              by_cases huv : u = v
              · subst huv; rw [List.set_set]
              · rcases List.mem_cons.mp h with z | z
                · exact absurd z huv
                · rw [List.set_comm _ _ (fun z => huv z.symm), ih2 z]
          exact this vs hm
      exact ww vs fun _ h => h
    · rcases hcase with ⟨x1, rfl, ht, hx1⟩ | ⟨rfl, ht⟩
      · refine ktt ρ' true ht Hf0 H0 Hf3 H3 σ2 S4 _ fun H4 Hf4 g4 => ?_
        rw [if_pos rfl]
        intro Y2 cY2
        refine he Y2 cY2 ρ' x1 true hx1 Hf0 H0 Hf4 H4 σ2 (S4.grow g4) _ fun y H5 Hf5 F5 g5 r5 n5 => ?_
        have gg : Gr Hf2 H2 Hf5 H5 := (g3.trans g4).trans g5
        have hxs5 : H5 D = some (.lst xs) := gg.e _ _ hxs
        have hxs4 : H4 D = some (.lst xs) := g4.e _ _ (g3.e _ _ hxs)
        have la : xs.length = a.length := repS_len ra
        have lt : a.length ≤ 40000 := by
          have := compD_le ha
          rw [List.length_take] at this
          omega
        refine ⟨xs, hxs5, Evl.sz_lt (by omega), ?_⟩
        rcases hstep with ⟨y1, h4, h5⟩ | ⟨h4, _⟩
        · rw [ho] at h4
          cases h4
          have n5' := n5 rfl
          have gT : Gr Hf1 H1 Hf5 H5 := g2.trans gg
          have nD : New H1 Hf5 (D :: F) := na.grow gg (fun b hb => by
            rcases List.mem_cons.mp hb with rfl | hb
            · exact ⟨_, hxs⟩
            · exact repS_dom _ _ _ ra b hb)
          have dom4 : ∀ b ∈ D :: F, ∃ o, H4 b = some o := fun b hb => by
            rcases List.mem_cons.mp hb with rfl | hb
            · exact ⟨_, hxs4⟩
            · obtain ⟨o, q⟩ := repS_dom _ _ _ ra b hb
              exact ⟨o, (g3.trans g4).e _ _ q⟩
          have nAll : New H1 Hf5 ((D :: F) ++ F5) := New.append (Hf := Hf1) (Hf1 := Hf4) (g2.trans (g3.trans g4)).e nD dom4 n5'
          have neF : ∀ b ∈ F, b ≠ D := fun b hb z => by
            subst z
            exact (List.nodup_cons.mp na.nd).1 hb
          have neF5 : ∀ b ∈ F5, b ≠ D := fun b hb z => by
            subst z
            have := n5'.h b hb
            rw [hxs4] at this; cases this
          refine ⟨a ++ [x1], Hf5, xs ++ [y], F ++ F5, h5, ⟨gT.e.mut hD, gT.f, fun b o q => ?_, gT.n⟩, upd_same, ?_, by simpa using nAll⟩
          · have nb : b ≠ D := fun z => by
              subst z
              rw [nD.f b List.mem_cons_self] at q; cases q
            rw [upd_ne nb]
            exact gT.s b o q
          · refine repS_append (repS_mono gg.f _ _ _ (fun b hb o q => ?_) ra) ?_
            · rw [upd_ne (neF b hb)]; exact gg.e b o q
            · refine ⟨y, [], F5, [], rfl, by rw [List.append_nil], rep_mono (fun _ _ q => q) _ _ _ (fun b hb o q => ?_) r5, rfl, rfl⟩
              rw [upd_ne (neF5 b hb)]; exact q
        · rw [ho] at h4; cases h4
      · refine ktt ρ' false ht Hf0 H0 Hf3 H3 σ2 S4 _ fun H4 Hf4 g4 => ?_
        rw [if_neg Bool.false_ne_true]
        rcases hstep with ⟨y1, h4, h5⟩ | ⟨h4, h5⟩
        · rw [ho] at h4; cases h4
        · have gg : Gr Hf2 H2 Hf4 H4 := g3.trans g4
          exact ⟨a, Hf4, xs, F, h5, g2.trans gg, gg.e _ _ hxs, repS_mono gg.f _ _ _ (fun b _ o q => gg.e b o q) ra, na.grow gg (fun b hb => by
            rcases List.mem_cons.mp hb with rfl | hb
            · exact ⟨_, hxs⟩
            · exact repS_dom _ _ _ ra b hb)⟩
  · rintro H2 ⟨a, Hf2, xs, F, ha, g2, hxs, ra, na⟩
    rw [List.take_length] at ha
    rw [ha] at h2
    cases h2
    exact p (.ref D) H2 Hf2 (D :: F) (g1.trans g2) ⟨D, xs, F, rfl, rfl, hxs, ra⟩ fun _ => na.back g1.e
theorem sem_lc {elt tg iter : Expr} {ifs : List Expr} {scope : Scope} {own : List (Str × Nat)} {pos : Pos} {vs : List Nat} {elt' : E} {t' : Tg} {it' : It} {ifs' : Es} (hok : BlkOk N sc.toScope scope own) (hs : ∀ env x, foldedSetIterable iter env x = pure x)
    (hit : SemI L N sc k tg iter it') (hvs : own.map (·.2) = vs) (htg : tgIn vs t' = true) (hg : SemG L N (blkSc sc scope) k tg t') (hif : SemC L N (blkSc sc scope) k ifs ifs') (he : SemE L N (blkSc sc scope) k elt elt') (hh : sc.hot = false := by rfl) :
    SemE L N sc k (.ListComp elt [⟨tg, iter, ifs, 0⟩] scope pos) (.lc vs elt' t' it' ifs') := by
  intro X c ρ d fr h Hf0 H0 Hf H σ S Q p
  simp only [ev] at h
  split at h
  · rename_i items h1
    split at h
    · rename_i hz
      have h' : ((compD (lcF L.G vs elt' t' ifs' ρ) items).map fun ds => (D.lst M.own ds, true)) = some (d, fr) := h
      cases h2 : compD (lcF L.G vs elt' t' ifs' ρ) items with
      | none => rw [h2] at h'; cases h'
      | some ds =>
        rw [h2] at h'
        cases h'
        obtain ⟨wi, g, tt, te, a1, a2, a3, a4, a5⟩ := lc_all hit hvs htg hg hif he c h1 (of_decide_eq_true hz) h2 S
        exact by_pe (pe_lc (c.calm hh) (by rw [c.hN]; exact c.nd) a1 (by rw [c.hN, c.hsc]; exact hok) a2 a3 a4 (hs _)) (a5 Q p)
    · cases h
  · cases h
end
end
end Z

/-! Z10: statements. -/
namespace Z
open PySem PySem.Spec PyProof.Rows L2
open Evl (Ex ex_l ex_t ex_rd)

section
variable {T : Tab} {Hf H : Hp}
/-- a slot's thing is changed where it lies -/
theorem repE_mut : ∀ {ρ : Rho} {σ : L2.St} {F : List Addr} {i : Nat} {d : D}, repE T Hf H ρ σ F → ρ[i]? = some (some d) → ∃ v G A C, σ[i]? = some (some v) ∧ rep T Hf H d v G ∧ F = A ++ (G ++ C) ∧
    ∀ (H' : Hp) (d' : D) (G' : List Addr), (∀ a ∈ A, ∀ o, H a = some o → H' a = some o) → (∀ a ∈ C, ∀ o, H a = some o → H' a = some o) → rep T Hf H' d' v G' → repE T Hf H' (ρ.set i (some d')) σ (A ++ (G' ++ C))
  | [], _, _, i, d, _, h => by simp at h
  | none :: _, _, _, 0, d, _, h => by simp at h
  | some d0 :: ρ, _, _, 0, d, ⟨v, τ, F1, F2, e, f, r, q⟩, h => by
    cases (Option.some.inj (Option.some.inj h : some d0 = some d) : d0 = d)
    subst e
    exact ⟨v, F1, [], F2, rfl, r, f, fun H' d' G' _ kC r' => ⟨v, τ, G', F2, rfl, rfl, r', repE_mono (fun _ _ q => q) kC q⟩⟩
  | none :: ρ, _, _, i + 1, d, ⟨w, τ, e, q⟩, h => by
    subst e
    obtain ⟨v, G, A, C, h1, h2, h3, h4⟩ := repE_mut (i := i) q h
    exact ⟨v, G, A, C, h1, h2, h3, fun H' d' G' kA kC r' => ⟨w, τ, rfl, h4 H' d' G' kA kC r'⟩⟩
  | some d0 :: ρ, _, _, i + 1, d, ⟨v0, τ, F1, F2, e, f, r, q⟩, h => by
    subst e
    obtain ⟨v, G, A, C, h1, h2, h3, h4⟩ := repE_mut (i := i) q h
    refine ⟨v, G, F1 ++ A, C, h1, h2, by rw [f, h3, List.append_assoc], fun H' d' G' kA kC r' => ⟨v0, τ, F1, A ++ (G' ++ C), rfl, by rw [List.append_assoc], rep_mono (fun _ _ q => q) _ _ _ (fun a ha => kA a (List.mem_append_left _ ha)) r, h4 H' d' G' (fun a ha => kA a (List.mem_append_right _ ha)) kC r'⟩⟩
/-- .. as a state: p in the thing's own places is written, E came new with what is put in -/
theorem StOk.mut {Hf0 H0 Hfp Hp' : Hp} {ρ : Rho} {σ : L2.St} {i : Nat} {d : D} {E : List Addr} (S : StOk T Hf0 H0 Hfp Hp' ρ σ) (g : Gr Hfp Hp' Hf H) (hi : ρ[i]? = some (some d)) (hE : New Hp' Hf E) :
    ∃ v G, σ[i]? = some (some v) ∧ rep T Hf H d v G ∧ G.Nodup ∧ (∀ a ∈ G, Hf a = none) ∧ (∀ a ∈ G, a ∉ E) ∧ ∀ (p : Addr) (o : HO) (d' : D) (G' : List Addr), p ∈ G → rep T Hf (upd H p o) d' v G' → G'.Nodup → (∀ a ∈ G', a ∈ G ∨ a ∈ E) →
      StOk T Hf0 H0 Hf (upd H p o) (ρ.set i (some d')) σ := by
  obtain ⟨F, r0, n0⟩ := S.own
  have r := repE_mono (T := T) (H' := H) g.f (fun a _ o q => g.e a o q) r0
  have n := n0.grow g (repE_dom r0)
  obtain ⟨v, G, A, C, h1, h2, h3, h4⟩ := repE_mut r hi
  subst h3
  have nd := n.nd
  rw [List.nodup_append, List.nodup_append] at nd
  obtain ⟨n1, ⟨n5, n2, n4⟩, n3⟩ := nd
  have FE : ∀ a ∈ A ++ (G ++ C), a ∉ E := fun a ha he => by
    obtain ⟨o, q⟩ := repE_dom r0 a ha
    rw [hE.h a he] at q; cases q
  have hG : ∀ a ∈ G, a ∈ A ++ (G ++ C) := fun a ha => List.mem_append_right _ (List.mem_append_left _ ha)
  refine ⟨v, G, h1, h2, n5, fun a ha => n.f a (hG a ha), fun a ha => FE a (hG a ha), fun p o d' G' hp r' nd' sub => ?_⟩
  have pA : ∀ a ∈ A, a ≠ p := fun a ha z => n3 a ha p (List.mem_append_left _ hp) z
  have pC : ∀ a ∈ C, a ≠ p := fun a ha z => n4 p hp a ha z.symm
  have p0 : H0 p = none := n.h p (hG p hp)
  have pf : Hf p = none := n.f p (hG p hp)
  have gr := S.gr.trans g
  refine ⟨⟨gr.e.mut p0, gr.f, fun a u q => ?_, gr.n⟩, A ++ (G' ++ C), h4 _ d' G' (fun a ha u q => by rw [upd_ne (pA a ha)]; exact q) (fun a ha u q => by rw [upd_ne (pC a ha)]; exact q) r', ?_, fun a ha => ?_, fun a ha => ?_⟩
  · have : a ≠ p := fun z => by subst z; rw [pf] at q; cases q
    rw [upd_ne this]
    exact gr.s a u q
  · rw [List.nodup_append, List.nodup_append]
    refine ⟨n1, ⟨nd', n2, fun a ha b hb => ?_⟩, fun a ha b hb => ?_⟩
    · rcases sub a ha with h | h
      · exact n4 a h b hb
      · exact fun z => FE b (List.mem_append_right _ (List.mem_append_right _ hb)) (z ▸ h)
    · rcases List.mem_append.mp hb with hb | hb
      · rcases sub b hb with h | h
        · exact n3 a ha b (List.mem_append_left _ h)
        · exact fun z => FE a (List.mem_append_left _ ha) (z ▸ h)
      · exact n3 a ha b (List.mem_append_right _ hb)
  · rcases List.mem_append.mp ha with ha | ha
    · exact n.h a (List.mem_append_left _ ha)
    · rcases List.mem_append.mp ha with ha | ha
      · rcases sub a ha with h | h
        · exact n.h a (hG a h)
        · exact none_back S.gr.e (hE.h a h)
      · exact n.h a (List.mem_append_right _ (List.mem_append_right _ ha))
  · rcases List.mem_append.mp ha with ha | ha
    · exact n.f a (List.mem_append_left _ ha)
    · rcases List.mem_append.mp ha with ha | ha
      · rcases sub a ha with h | h
        · exact n.f a (hG a h)
        · exact hE.f a h
      · exact n.f a (List.mem_append_right _ (List.mem_append_right _ ha))
end

section
variable {L : Law} {N : List Str} {sc : Sc} {k : Nat}
def PostS (T : Tab) (Hf0 H0 Hf : Hp) (o : Out) (D : Ends) : Prop := match o with
  | .nx ρ => ∀ σ' Hf' H', Ex Hf Hf' → StOk T Hf0 H0 Hf' H' ρ σ' → D.nx σ' H'
  | .bk ρ => ∀ σ' Hf' H', Ex Hf Hf' → StOk T Hf0 H0 Hf' H' ρ σ' → D.bk σ' H'
  | .ct ρ => ∀ σ' Hf' H', Ex Hf Hf' → StOk T Hf0 H0 Hf' H' ρ σ' → D.ct σ' H'
  | .rt d => ∀ v Hf' H' F, Gr Hf0 H0 Hf' H' → rep T Hf' H' d v F → New H0 Hf' F → D.rt v H'
theorem PostS.mono {T : Tab} {Hf0 H0 Hf Hf1 : Hp} {o : Out} {D : Ends} (p : PostS T Hf0 H0 Hf o D) (e : Ex Hf Hf1) : PostS T Hf0 H0 Hf1 o D := by
  cases o with
  | nx ρ => exact fun σ' Hf' H' e' S => p σ' Hf' H' (e.trans e') S
  | bk ρ => exact fun σ' Hf' H' e' S => p σ' Hf' H' (e.trans e') S
  | ct ρ => exact fun σ' Hf' H' e' S => p σ' Hf' H' (e.trans e') S
  | rt d => exact p
def SemS (L : Law) (N : List Str) (sc : Sc) (k : Nat) (st : Stmt) (s : S) : Prop :=
  ∀ X, Cok L N sc k X → ∀ ρ o, run1 L.G s ρ = some o → ∀ Hf0 H0 Hf H σ, StOk L.T Hf0 H0 Hf H ρ σ → ∀ D, PostS L.T Hf0 H0 Hf o D → tS X st D σ H
def SemSs (L : Law) (N : List Str) (sc : Sc) (k : Nat) (st : List Stmt) (s : Ss) : Prop :=
  ∀ X, Cok L N sc k X → ∀ ρ o, runs L.G s ρ = some o → ∀ Hf0 H0 Hf H σ, StOk L.T Hf0 H0 Hf H ρ σ → ∀ D, PostS L.T Hf0 H0 Hf o D → tSs X st D σ H
theorem semSs_nil : SemSs L N sc k [] .nil := by
  intro X c ρ o h Hf0 H0 Hf H σ S D p
  cases h
  exact by_pss pss_nil (p σ Hf H (Evl.Ex.refl _) S)
theorem semSs_cons {st : Stmt} {r : List Stmt} {s : S} {r' : Ss} (h1 : SemS L N sc k st s) (h2 : SemSs L N sc k r r') : SemSs L N sc k (st :: r) (.cons s r') := by
  intro X c ρ o h Hf0 H0 Hf H σ S D p
  simp only [runs] at h
  refine by_pss (pss_cons (ps_ st) (pss_ r)) ?_
  split at h
  · rename_i ρ' h3
    exact h1 X c ρ _ h3 Hf0 H0 Hf H σ S _ fun σ' Hf' H' e' S' => h2 X c ρ' o h Hf0 H0 Hf' H' σ' S' D (p.mono e')
  · rename_i hne
    refine h1 X c ρ o h Hf0 H0 Hf H σ S _ ?_
    cases o with
    | nx ρ' => exact absurd h (hne ρ')
    | bk ρ' => exact p
    | ct ρ' => exact p
    | rt d => exact p
theorem semS_pass {pos : Pos} : SemS L N sc k (.Pass pos) .pass := by
  intro X c ρ o h Hf0 H0 Hf H σ S D p
  cases h
  exact by_ps ps_pass (p σ Hf H (Evl.Ex.refl _) S)
theorem semS_brk {pos : Pos} : SemS L N sc k (.Break pos) .brk := by
  intro X c ρ o h Hf0 H0 Hf H σ S D p
  cases h
  exact by_ps ps_break (p σ Hf H (Evl.Ex.refl _) S)
theorem semS_cont {pos : Pos} : SemS L N sc k (.Continue pos) .cont := by
  intro X c ρ o h Hf0 H0 Hf H σ S D p
  cases h
  exact by_ps ps_continue (p σ Hf H (Evl.Ex.refl _) S)
theorem semS_never {st : Stmt} : SemS L N sc k st .never := by
  intro X c ρ o h
  cases h
theorem semS_retN {pos : Pos} : SemS L N sc k (.Return none pos) .retN := by
  intro X c ρ o h Hf0 H0 Hf H σ S D p
  cases h
  exact by_ps ps_retN (p .non Hf H [] S.gr ⟨rfl, rfl⟩ New.nil)
theorem semS_ret {e : Expr} {e' : E} {pos : Pos} (he : SemE L N sc k e e') : SemS L N sc k (.Return (some e) pos) (.ret e') := by
  intro X c ρ o h Hf0 H0 Hf H σ S D p
  simp only [run1] at h
  split at h
  · rename_i d hd
    cases h
    obtain ⟨Hf1, e1, S1⟩ := S.frzL (kept e')
    exact by_ps (ps_ret (pe_ e)) (he X c _ d true hd Hf0 H0 Hf1 H σ S1 _ fun v H2 Hf2 F g r n => p v Hf2 H2 F (S1.gr.trans g) r ((n rfl).back S1.gr.e))
  · cases h
theorem semS_drop {e : Expr} {e' : E} {pos : Pos} (hs : ∀ l env, swapsWith e none l env = pure false) (he : SemE L N sc k e e') : SemS L N sc k (.Expr e pos) (.drop e') := by
  intro X c ρ o h Hf0 H0 Hf H σ S D p
  simp only [run1] at h
  split at h
  · rename_i q hd
    cases h
    obtain ⟨d, f⟩ := q
    obtain ⟨Hf1, e1, S1⟩ := S.frzL (kept e')
    exact by_ps (ps_expr (pe_ e) (hs _ _)) (he X c _ d f hd Hf0 H0 Hf1 H σ S1 _ fun v H2 Hf2 F g r n => p σ Hf2 H2 (e1.trans g.f) (S1.grow g))
  · cases h
theorem semS_ite {t : Expr} {a b : List Stmt} {t' : E} {a' b' : Ss} {pos : Pos} (ht : SemT L N sc k t t') (ha : SemSs L N sc k a a') (hb : SemSs L N sc k b b') : SemS L N sc k (.If t a b pos) (.ite t' a' b') := by
  intro X c ρ o h Hf0 H0 Hf H σ S D p
  simp only [run1] at h
  obtain ⟨Hf1, e1, S1⟩ := S.frzL (peek t')
  split at h
  · rename_i hd
    refine by_ps (ps_if (pt_ t) (pss_ a) (pss_ b)) (ht X c _ true hd Hf0 H0 Hf1 H σ S1 _ fun H2 Hf2 g => ?_)
    rw [if_pos rfl]
    exact ha X c _ o h Hf0 H0 Hf2 H2 σ (S1.grow g) D (p.mono (e1.trans g.f))
  · rename_i hd
    refine by_ps (ps_if (pt_ t) (pss_ a) (pss_ b)) (ht X c _ false hd Hf0 H0 Hf1 H σ S1 _ fun H2 Hf2 g => ?_)
    rw [if_neg Bool.false_ne_true]
    exact hb X c _ o h Hf0 H0 Hf2 H2 σ (S1.grow g) D (p.mono (e1.trans g.f))
  · cases h
theorem semS_asg {i : Nat} {x : Str} {e : Expr} {e' : E} {pos pos' : Pos} (hN : N[i]? = some x) (hx : sc.names.lookup x = some .local ∨ (sc.names.lookup x = some .cell ∧ sc.fnb x = true)) (hs : ∀ l env, swapsWith e (some (.Name x pos')) l env = pure false) (he : SemE L N sc k e e') :
    SemS L N sc k (.Assign [.Name x pos'] e pos) (.asg (.name i) e') := by
  intro X c ρ o h Hf0 H0 Hf H σ S D p
  simp only [run1] at h
  split at h
  · rename_i d hd
    cases h
    obtain ⟨Hf1, e1, S1⟩ := S.frzL (kept e')
    have loc : Loc X.env.scope x := by
      rw [c.hsc]
      rcases hx with h | h
      · exact .inl h
      · exact .inr h.1
    have hf : X.fn x = true ∨ X.env.scope.names.lookup x = some .local := by
      rw [c.hsc]
      rcases hx with h | h
      · exact .inr h
      · exact .inl (c.fn x h.2)
    exact by_ps (ps_set (i := i) (by rw [c.hN]; exact c.nd) (by rw [c.hN]; exact hN) loc (pe_ e) (hs _ _) hf) (he X c _ d true hd Hf0 H0 Hf1 H σ S1 _ fun v H2 Hf2 F g r n => p _ Hf2 H2 (e1.trans g.f) (S1.set i g r (n rfl)))
  · cases h
theorem semS_asgT {tg e : Expr} {t : Tg} {e' : E} {pos : Pos} (hs : ∀ l env, swapsWithSole [tg] e l env = pure false) (hw : ∀ env, swappedStores [tg] e env = pure none) (h1 : ∀ env, (assignEach [tg] env).map (·.2) = [assign tg env]) (hg : SemG L N sc k tg t) (he : SemE L N sc k e e') :
    SemS L N sc k (.Assign [tg] e pos) (.asg t e') := by
  intro X c ρ o h Hf0 H0 Hf H σ S D p
  simp only [run1] at h
  split at h
  · rename_i d hd
    cases hb : bindT t d (frzL ρ (kept e')) with
    | none => rw [hb] at h; cases h
    | some ρ' =>
      rw [hb] at h
      cases h
      obtain ⟨Hf1, e1, S1⟩ := S.frzL (kept e')
      exact by_ps (ps_asg (pe_ e) (pg_ tg) (hs _ _) (hw _) (h1 _)) (he X c _ d true hd Hf0 H0 Hf1 H σ S1 _ fun v H2 Hf2 F g r n => hg X c d _ ρ' hb Hf0 H0 Hf1 H Hf2 H2 σ v F S1 g r (n rfl) _ fun σ' S2 _ => p σ' Hf2 H2 (e1.trans g.f) S2)
  · cases h
theorem semS_asgLc {i : Nat} {y : Str} {py pos spos : Pos} {elt tg iter : Expr} {ifs : List Expr} {scope : Scope} {own : List (Str × Nat)} {vs : List Nat} {elt' : E} {t' : Tg} {it' : It} {ifs' : Es} (hN : N[i]? = some y) (hy : sc.names.lookup y = some .local)
    (hsw : ∀ env, env.scope = sc.toScope → env.blockKind = .function → swapsWith (.ListComp elt [⟨tg, iter, ifs, 0⟩] scope pos) (some (.Name y py)) spos.line env = pure true) (hbk : ∀ X, Cok L N sc k X → X.env.blockKind = .function)
    (hok : BlkOk N sc.toScope scope own) (hs : ∀ env x, foldedSetIterable iter env x = pure x)
    (hit : SemI L N sc k tg iter it') (hvs : own.map (·.2) = vs) (htg : tgIn vs t' = true) (hg : SemG L N (blkSc sc scope) k tg t') (hif : SemC L N (blkSc sc scope) k ifs ifs') (he : SemE L N (blkSc sc scope) k elt elt') (hh : sc.hot = false := by rfl) :
    SemS L N sc k (.Assign [.Name y py] (.ListComp elt [⟨tg, iter, ifs, 0⟩] scope pos) spos) (.asg (.name i) (.lc vs elt' t' it' ifs')) := by
  intro X c ρ o h Hf0 H0 Hf H σ S D p
  simp only [run1] at h
  split at h
  · rename_i d hd
    cases h
    obtain ⟨Hf1, e1, S1⟩ := S.frzL (kept (.lc vs elt' t' it' ifs'))
    simp only [ev] at hd
    split at hd
    · rename_i items h1
      split at hd
      · rename_i hz
        have h' : ((compD (lcF L.G vs elt' t' ifs' (frzL ρ (kept (.lc vs elt' t' it' ifs')))) items).map fun ds => (Z.D.lst M.own ds, true)) = some (d, true) := hd
        cases h2 : compD (lcF L.G vs elt' t' ifs' (frzL ρ (kept (.lc vs elt' t' it' ifs')))) items with
        | none => rw [h2] at h'; cases h'
        | some ds =>
          rw [h2] at h'
          cases h'
          obtain ⟨wi, g, tt, te, a1, a2, a3, a4, a5⟩ := lc_all hit hvs htg hg hif he c h1 (of_decide_eq_true hz) h2 S1
          refine by_ps (ps_setLc (i := i) (c.calm hh) (by rw [c.hN]; exact c.nd) (by rw [c.hN]; exact hN) (by rw [c.hsc]; exact hy) (hsw _ c.hsc (hbk X c)) a1 (by rw [c.hN, c.hsc]; exact hok) a2 a3 a4 (hs _)) ?_
          exact a5 _ fun v H2 Hf2 F g r n => p _ Hf2 H2 (e1.trans g.f) (S1.set i g r (n rfl))
      · cases hd
    · cases hd
  · cases h
end
end Z

/-! Z11: loops; what is stored in lists and objects. -/
namespace Z
open PySem PySem.Spec PyProof.Rows L2
open Evl (Ex ex_l ex_t ex_rd)

section
variable {L : Law} {N : List Str} {sc : Sc} {k : Nat}
/-! ### for -/
theorem semS_for {tg iter : Expr} {body : List Stmt} {t : Tg} {it : It} {b : Ss} {pos : Pos} (hs : ∀ env x, foldedSetIterable iter env x = pure x) (hit : SemI L N sc k tg iter it) (hg : SemG L N sc k tg t) (hb : SemSs L N sc k body b) (hh : sc.hot = false := by rfl) :
    SemS L N sc k (.For tg iter body [] pos) (.for_ t it b) := by
  intro X c ρ o h Hf0 H0 Hf H σ S D p
  simp only [run1] at h
  split at h
  · rename_i items hi
    obtain ⟨Hf1, e1, S1⟩ := S.frzL (keptI it)
    obtain ⟨wi, hwi, kwi⟩ := hit X c _ items hi Hf0 H0 Hf1 H σ S1
    have hp : PassesOwn (model X.prog X.w) X.A X.env X.xe := by rw [c.xe]; exact PassesOwn.never
    refine by_ps (ps_for hp (c.calm hh) hwi (pg_ tg) (pss_ body) (hs _)) (kwi _ fun J H2 Hf2 ok => ?_)
    obtain ⟨g2, GG, Y, hw, hGG, hY⟩ := ok
    refine ⟨fun i m σ' H' => m = items.length - i ∧ i ≤ items.length ∧ ∃ ρ' Hf', StOk L.T Hf0 H0 Hf' H' ρ' σ' ∧ Ex Hf2 Hf' ∧ forD (bindT t) (runs L.G b) (items.drop i) ρ' = some o, ⟨_, rfl, Nat.zero_le _, _, Hf2, S1.grow g2, fun _ _ q => q, by simpa using h⟩, ?_⟩
    rintro i m σ' H' ⟨rfl, hi', ρ', Hf', S', eF, hrun⟩
    have hG : GG H' := hGG H' fun a u q => S'.sub a u (eF a u q)
    by_cases hlt : i < items.length
    · refine .inr ⟨hw.goes i H' hlt hG, ?_⟩
      rw [List.drop_eq_getElem_cons hlt] at hrun
      unfold forD at hrun
      have hd : items[i]? = some items[i] := List.getElem?_eq_getElem hlt
      split at hrun
      · rename_i ρ1 hbd
        have turn : ∀ o1, runs L.G b ρ1 = some o1 → ∀ D1 : Ends, (∀ Hf3 H3, Gr Hf' H' Hf3 H3 → PostS L.T Hf0 H0 Hf3 o1 D1) → ∀ x H3, J.yld i H' x H3 → tG X tg x σ' H3 fun σ4 H4 => tSs X body D1 σ4 H4 := fun o1 hbody D1 hp1 x H3 hy => by
          obtain ⟨Hf3, g3, r3⟩ := hY i _ H' Hf' x H3 hd eF S'.sub (hw.yields i H' x H3 hlt hG hy)
          exact hg X c _ ρ' ρ1 hbd Hf0 H0 Hf3 H3 Hf3 H3 σ' x [] (S'.grow g3) (.refl g3.s) r3 New.nil _ fun σ4 S4 _ => hb X c ρ1 o1 hbody Hf0 H0 Hf3 H3 σ4 S4 D1 (hp1 Hf3 H3 g3)
        split at hrun
        · rename_i ρ2 hbody
          refine ⟨fun σ3 H3 => ∃ ρ3 Hf3, StOk L.T Hf0 H0 Hf3 H3 ρ3 σ3 ∧ Ex Hf2 Hf3 ∧ forD (bindT t) (runs L.G b) (items.drop (i + 1)) ρ3 = some o, fun σ3 H3 q => ⟨_, by omega, rfl, hlt, q⟩, fun x H3 hy => ?_⟩
          exact turn _ hbody { D with nx := fun σ3 H3 => ∃ ρ3 Hf3, StOk L.T Hf0 H0 Hf3 H3 ρ3 σ3 ∧ Ex Hf2 Hf3 ∧ forD (bindT t) (runs L.G b) (items.drop (i + 1)) ρ3 = some o, ct := fun σ3 H3 => ∃ ρ3 Hf3, StOk L.T Hf0 H0 Hf3 H3 ρ3 σ3 ∧ Ex Hf2 Hf3 ∧ forD (bindT t) (runs L.G b) (items.drop (i + 1)) ρ3 = some o, bk := D.nx } (fun Hf3 H3 g3 σ5 Hf5 H5 e5 S5 => ⟨ρ2, Hf5, S5, eF.trans (g3.f.trans e5), hrun⟩) x H3 hy
        · rename_i ρ2 hbody
          refine ⟨fun σ3 H3 => ∃ ρ3 Hf3, StOk L.T Hf0 H0 Hf3 H3 ρ3 σ3 ∧ Ex Hf2 Hf3 ∧ forD (bindT t) (runs L.G b) (items.drop (i + 1)) ρ3 = some o, fun σ3 H3 q => ⟨_, by omega, rfl, hlt, q⟩, fun x H3 hy => ?_⟩
          exact turn _ hbody { D with nx := fun σ3 H3 => ∃ ρ3 Hf3, StOk L.T Hf0 H0 Hf3 H3 ρ3 σ3 ∧ Ex Hf2 Hf3 ∧ forD (bindT t) (runs L.G b) (items.drop (i + 1)) ρ3 = some o, ct := fun σ3 H3 => ∃ ρ3 Hf3, StOk L.T Hf0 H0 Hf3 H3 ρ3 σ3 ∧ Ex Hf2 Hf3 ∧ forD (bindT t) (runs L.G b) (items.drop (i + 1)) ρ3 = some o, bk := D.nx } (fun Hf3 H3 g3 σ5 Hf5 H5 e5 S5 => ⟨ρ2, Hf5, S5, eF.trans (g3.f.trans e5), hrun⟩) x H3 hy
        · rename_i ρ2 hbody
          cases hrun
          refine ⟨fun _ _ => False, fun σ3 H3 q => q.elim, fun x H3 hy => turn _ hbody _ (fun Hf3 H3 g3 σ5 Hf5 H5 e5 S5 => ?_) x H3 hy⟩
          exact p σ5 Hf5 H5 ((e1.trans g2.f).trans (eF.trans (g3.f.trans e5))) S5
        · rename_i d hbody
          cases hrun
          refine ⟨fun _ _ => False, fun σ3 H3 q => q.elim, fun x H3 hy => turn _ hbody _ (fun Hf3 H3 g3 => ?_) x H3 hy⟩
          exact p
        · cases hrun
      · cases hrun
    · have e : i = items.length := by omega
      subst e
      rw [List.drop_length] at hrun
      have hrun' : some (Out.nx ρ') = some o := hrun
      cases hrun'
      exact .inl ⟨hw.stops H' hG, p σ' Hf' H' ((e1.trans g2.f).trans eF) S'⟩
  · cases h
/-! ### while -/
theorem semS_while {e : Expr} {body : List Stmt} {e' : E} {b : Ss} {pos : Pos} (ht : SemT L N sc k e e') (hb : SemSs L N sc k body b) : SemS L N sc k (.While e body [] pos) (.while_ e' b) := by
  intro X c ρ o h Hf0 H0 Hf H σ S D p
  simp only [run1] at h
  obtain ⟨Hf1, e1, S1⟩ := S.frzL (peek e')
  have hp : PassesOwn (model X.prog X.w) X.A X.env X.xe := by rw [c.xe]; exact PassesOwn.never
  refine by_ps (ps_while hp (pt_ e) (pss_ body)) ?_
  refine ⟨fun m σ' H' => ∃ ρ' Hf', StOk L.T Hf0 H0 Hf' H' ρ' σ' ∧ Ex Hf Hf' ∧ whileD (test L.G e') (runs L.G b) m ρ' = some o, ⟨L.G.wf, _, Hf1, S1, e1, h⟩, ?_⟩
  rintro m σ' H' ⟨ρ', Hf', S', eF, hrun⟩
  cases m with
  | zero => cases hrun
  | succ m =>
    unfold whileD at hrun
    split at hrun
    · rename_i htrue
      refine ht X c ρ' true htrue Hf0 H0 Hf' H' σ' S' _ fun H2 Hf2 g => ?_
      rw [if_pos rfl]
      split at hrun
      · rename_i ρ2 hbody
        exact ⟨fun σ3 H3 => ∃ ρ3 Hf3, StOk L.T Hf0 H0 Hf3 H3 ρ3 σ3 ∧ Ex Hf Hf3 ∧ whileD (test L.G e') (runs L.G b) m ρ3 = some o, fun σ3 H3 q => ⟨m, Nat.lt_succ_self m, q⟩,
          hb X c ρ' _ hbody Hf0 H0 Hf2 H2 σ' (S'.grow g) _ fun σ5 Hf5 H5 e5 S5 => ⟨ρ2, Hf5, S5, eF.trans (g.f.trans e5), hrun⟩⟩
      · rename_i ρ2 hbody
        exact ⟨fun σ3 H3 => ∃ ρ3 Hf3, StOk L.T Hf0 H0 Hf3 H3 ρ3 σ3 ∧ Ex Hf Hf3 ∧ whileD (test L.G e') (runs L.G b) m ρ3 = some o, fun σ3 H3 q => ⟨m, Nat.lt_succ_self m, q⟩,
          hb X c ρ' _ hbody Hf0 H0 Hf2 H2 σ' (S'.grow g) _ fun σ5 Hf5 H5 e5 S5 => ⟨ρ2, Hf5, S5, eF.trans (g.f.trans e5), hrun⟩⟩
      · rename_i ρ2 hbody
        cases hrun
        exact ⟨fun _ _ => False, fun σ3 H3 q => q.elim, hb X c ρ' _ hbody Hf0 H0 Hf2 H2 σ' (S'.grow g) _ fun σ5 Hf5 H5 e5 S5 => p σ5 Hf5 H5 (eF.trans (g.f.trans e5)) S5⟩
      · rename_i d hbody
        cases hrun
        exact ⟨fun _ _ => False, fun σ3 H3 q => q.elim, hb X c ρ' _ hbody Hf0 H0 Hf2 H2 σ' (S'.grow g) _ p⟩
      · cases hrun
    · rename_i hfalse
      cases hrun
      refine ht X c ρ' false hfalse Hf0 H0 Hf' H' σ' S' _ fun H2 Hf2 g => ?_
      rw [if_neg Bool.false_ne_true]
      exact p σ' Hf2 H2 (eF.trans g.f) (S'.grow g)
    · cases hrun

/-! ### what is stored in things -/
theorem repS_set {T : Tab} {Hf H : Hp} : ∀ {ds : List Z.D} {xs : List V} {j : Nat} {d : Z.D} {v : V}, repS T Hf H ds xs [] → rep T Hf H d v [] → repS T Hf H (ds.set j d) (xs.set j v) []
  | [], _, j, d, v, h, _ => by rw [h.1]; exact ⟨rfl, rfl⟩
  | d0 :: ds, _, 0, d, v, ⟨w, vs, F1, F2, e, f, r, q⟩, h => by
    subst e
    have e2 : F1 = [] ∧ F2 = [] := by
      cases F1 with
      | nil => exact ⟨rfl, f.symm⟩
      | cons a b => cases f
    obtain ⟨e1, e2⟩ := e2
    subst e1; subst e2
    exact ⟨v, vs, [], [], rfl, rfl, h, q⟩
  | d0 :: ds, _, j + 1, d, v, ⟨w, vs, F1, F2, e, f, r, q⟩, h => by
    subst e
    have e2 : F1 = [] ∧ F2 = [] := by
      cases F1 with
      | nil => exact ⟨rfl, f.symm⟩
      | cons a b => cases f
    obtain ⟨e1, e2⟩ := e2
    subst e1; subst e2
    exact ⟨w, vs.set j v, [], [], rfl, rfl, r, repS_set q h⟩
/-- xs[ix] = e -/
theorem semS_sub {i : Nat} {x : Str} {ix e : Expr} {ix' e' : E} {p1 p2 pos : Pos} (hN : N[i]? = some x) (hv : Vis sc.toScope x) (hd : (x == ("__debug__" : Str)) = false) (hcd : (x == ("__classdict__" : Str)) = false)
    (hs : ∀ l env, swapsWithSole [.Subscript (.Name x p1) ix p2] e l env = pure false) (hw : ∀ env, swappedStores [.Subscript (.Name x p1) ix p2] e env = pure none) (h1 : ∀ env, (assignEach [.Subscript (.Name x p1) ix p2] env).map (·.2) = [assign (.Subscript (.Name x p1) ix p2) env])
    (ha : ∀ env v, assign (.Subscript (.Name x p1) ix p2) env v = (do
      let ov ← holding [v] (eval (.Name x p1) env)
      let iv ← holding [v, ov] (eval ix env)
      standAt p2
      holding [v, ov, iv] (setItem ov iv v)
      release [v, ov, iv] []))
    (hi : SemE L N sc k ix ix') (he : SemE L N sc k e e') : SemS L N sc k (.Assign [.Subscript (.Name x p1) ix p2] e pos) (.sub i ix' e') := by
  intro X c ρ o h Hf0 H0 Hf H σ S D p
  simp only [run1] at h
  split at h
  · rename_i d j f2 hd1 hd2
    split at h
    · rename_i ds hds
      split at h
      · rename_i hc
        cases h
        simp only [Bool.and_eq_true, decide_eq_true_eq] at hc
        obtain ⟨⟨⟨z1, z2⟩, j0⟩, jl⟩ := hc
        obtain ⟨Hf1, e1, S1⟩ := S.frzL (kept e' ++ peek ix')
        refine by_ps (ps_asg (pe_ e) (pg_sub (pe_var (i := i) (by rw [c.hN]; exact hN) (by rw [c.hsc]; exact hv) hd hcd) (pe_ ix) set_list (ha _)) (hs _ _) (hw _) (h1 _)) (he X c _ d true hd1 Hf0 H0 Hf1 H σ S1 _ fun v H2 Hf2 F g r n => ?_)
        have z3 := fz_nil r z2
        subst z3
        obtain ⟨w, G, hσ, hr, nG, fG, _, up⟩ := S1.mut g hds (New.nil (H := H) (Hf' := Hf2))
        refine ⟨w, hσ, hi X c _ _ f2 hd2 Hf0 H0 Hf2 H2 σ (S1.grow g) _ fun u H3 Hf3 F3 g3 r3 _ => ?_⟩
        obtain ⟨w', G', hσ', hr', nG', fG', _, up'⟩ := S1.mut (g.trans g3) hds (New.nil (H := H) (Hf' := Hf3))
        rw [hσ] at hσ'
        cases hσ'
        obtain ⟨a, xs, G2, rfl, eG, hxs, rs⟩ := hr'
        have z4 := fzs_nil rs z1
        subst z4
        subst eG
        have ju := r3.1
        subst ju
        have len := repS_len rs
        refine ⟨a, xs, j, j.toNat, rfl, rfl, hxs, ?_, ?_⟩
        · unfold ixN
          rw [if_pos j0, if_pos (by omega)]
        · refine p _ Hf3 _ ((e1.trans g.f).trans g3.f) (up' a (.lst (xs.set j.toNat v)) (.lst .own (ds.set j.toNat d)) [a] List.mem_cons_self ?_ nG' fun b hb => .inl hb)
          refine ⟨a, _, [], rfl, rfl, upd_same, ?_⟩
          exact repS_mono (fun _ _ q => q) _ _ _ (fun b hb => by cases hb) (repS_set rs (rep_mono g3.f _ _ _ (fun b hb => by cases hb) r))
      · cases h
    · cases h
  · cases h
/-- xs.append(e) -/
theorem semS_app {i : Nat} {x : Str} {e : Expr} {e' : E} {p1 apos cpos pos : Pos} (hN : N[i]? = some x) (hv : Vis sc.toScope x) (hd : (x == ("__debug__" : Str)) = false) (hcd : (x == ("__classdict__" : Str)) = false)
    (hline : (apos.endLine == cpos.line) = true) (hs : ∀ env, starEach [e] env = [(false, eval e env)]) (he : SemE L N sc k e e') : SemS L N sc k (.Expr (.Call (.Attribute (.Name x p1) "append" apos) [e] [] cpos) pos) (.app i e') := by
  intro X c ρ o h Hf0 H0 Hf H σ S D p
  simp only [run1] at h
  split at h
  · rename_i d hd1
    split at h
    · rename_i ds hds
      split at h
      · rename_i hc
        cases h
        have hl := of_decide_eq_true hc
        obtain ⟨Hf1, e1, S1⟩ := S.frzL (kept e')
        refine by_ps (ps_expr (pe_bm PySem.F.plainAttrs_list PySem.F.slot_list_append PySem.F.type_list_append mt_append (pe_var (i := i) (by rw [c.hN]; exact hN) (by rw [c.hsc]; exact hv) hd hcd) (pa_cons (pe_ e) pa_nil (by rw [hs]; rfl)) rfl (by rw [hs]; rfl) hline (by rw [hs]; rfl) rfl) rfl) ?_
        obtain ⟨w0, G0, hσ0, hr0, _, _, _, _⟩ := S1.mut (Gr.refl S1.sub) hds (New.nil (H := H) (Hf' := Hf1))
        obtain ⟨a, xs0, G1, rfl, eG0, hxs0, rs0⟩ := hr0
        refine ⟨.ref a, hσ0, .inl ⟨rfl, xs0, .of hxs0⟩, he X c _ d true hd1 Hf0 H0 Hf1 H σ S1 _ fun v H2 Hf2 F g r n => ?_⟩
        obtain ⟨w, G, hσ, hr, nG, fG, dG, up⟩ := S1.mut g hds (n rfl)
        rw [hσ0] at hσ
        cases hσ
        obtain ⟨a', xs, G2, ea, eG, hxs, rs⟩ := hr
        cases ea
        subst eG
        have len := repS_len rs
        refine ⟨a, xs, v, rfl, rfl, hxs, Evl.sz_lt (by rw [len]; exact hl), p _ Hf2 _ (e1.trans g.f) (up a (.lst (xs ++ [v])) (.lst .own (ds ++ [d])) (a :: (G2 ++ F)) List.mem_cons_self ?_ ?_ fun b hb => ?_)⟩
        · have nF : a ∉ F := dG a List.mem_cons_self
          have nG2 : a ∉ G2 := (List.nodup_cons.mp nG).1
          refine ⟨a, _, G2 ++ F, rfl, rfl, upd_same, repS_append (repS_mono (fun _ _ q => q) _ _ _ (fun b hb o q => ?_) rs) ⟨v, [], F, [], rfl, by rw [List.append_nil], rep_mono (fun _ _ q => q) _ _ _ (fun b hb o q => ?_) r, rfl, rfl⟩⟩
          · rw [upd_ne (fun z => nG2 (by rw [← z]; exact hb))]; exact q
          · rw [upd_ne (fun z => nF (by rw [← z]; exact hb))]; exact q
        · refine List.nodup_cons.mpr ⟨fun hm => ?_, ?_⟩
          · rcases List.mem_append.mp hm with hm | hm
            · exact (List.nodup_cons.mp nG).1 hm
            · exact dG a List.mem_cons_self hm
          · exact List.nodup_append.mpr ⟨(List.nodup_cons.mp nG).2, (n rfl).nd, fun b hb c2 hc2 z => dG b (List.mem_cons_of_mem _ hb) (z ▸ hc2)⟩
        · rcases List.mem_cons.mp hb with rfl | hb
          · exact .inl List.mem_cons_self
          · rcases List.mem_append.mp hb with hb | hb
            · exact .inl (List.mem_cons_of_mem _ hb)
            · exact .inr hb
      · cases h
    · cases h
  · cases h
/-- the fields of an object with one more, or one changed -/
theorem putF_rep {T : Tab} {Hf H : Hp} (nd : T.nm.Nodup) {kk : Nat} {x : Str} (hk : T.nm[kk]? = some x) {d : Z.D} {v : V} (rd : rep T Hf H d v []) : ∀ {ks ks' : List Nat} {ds ds' : List Z.D} {fs : List (Str × V)}, fs.map (fun p => some p.1) = ks.map (fun k => T.nm[k]?) → repS T Hf H ds (fs.map (·.2)) [] →
    putK kk d ks ds = some (ks', ds') → (putF x v fs).map (fun p => some p.1) = ks'.map (fun k => T.nm[k]?) ∧ repS T Hf H ds' ((putF x v fs).map (·.2)) []
  | [], _, [], _, [], e, r, h => by
    simp only [putK] at h
    cases h
    exact ⟨by simp [putF, hk], ⟨v, [], [], [], rfl, rfl, rd, rfl, rfl⟩⟩
  | [], _, [], _, _ :: _, e, r, h => by simp at e
  | [], _, _ :: _, _, _, e, r, h => by simp [putK] at h
  | _ :: _, _, [], _, _, e, r, h => by simp [putK] at h
  | j :: ks, _, d0 :: ds, _, [], e, r, h => by simp at e
  | j :: ks, ks', d0 :: ds, ds', (y, w) :: fs, e, r, h => by
    rw [List.map_cons, List.map_cons] at e
    injection e with e1 e2
    obtain ⟨v0, vs, F1, F2, e3, f, r1, r2⟩ := r
    rw [List.map_cons] at e3
    injection e3 with e4 e5
    subst e4
    have e6 : F1 = [] ∧ F2 = [] := by
      cases F1 with
      | nil => exact ⟨rfl, f.symm⟩
      | cons a b => cases f
    obtain ⟨e6, e7⟩ := e6
    subst e6; subst e7; subst e5
    simp only [putK] at h
    show (if y = x then (y, v) :: fs else (y, w) :: putF x v fs).map _ = _ ∧ repS T Hf H ds' ((if y = x then (y, v) :: fs else (y, w) :: putF x v fs).map _) []
    by_cases hj : j = kk
    · subst hj
      rw [if_pos rfl] at h
      cases h
      rw [hk] at e1
      cases e1
      rw [if_pos rfl]
      exact ⟨by rw [List.map_cons, List.map_cons, e2, hk], ⟨v, _, [], [], rfl, rfl, rd, r2⟩⟩
    · rw [if_neg hj] at h
      have ne : y ≠ x := by
        intro z
        subst z
        have e8 : T.nm[j]? = some y := e1.symm
        obtain ⟨l1, q1⟩ := List.getElem?_eq_some_iff.mp e8
        obtain ⟨l2, q2⟩ := List.getElem?_eq_some_iff.mp hk
        exact hj ((List.getElem_inj nd).mp (q1.trans q2.symm))
      rw [if_neg ne]
      cases hp : putK kk d ks ds with
      | none => rw [hp] at h; cases h
      | some p =>
        obtain ⟨k2, d2⟩ := p
        rw [hp] at h
        cases h
        obtain ⟨h1, h2⟩ := putF_rep nd hk rd e2 r2 hp
        exact ⟨by rw [List.map_cons, List.map_cons, h1, e1], ⟨w, _, [], [], rfl, rfl, r1, h2⟩⟩
/-- self.f = e -/
theorem semS_fld {i kk : Nat} {x f : Str} {e : Expr} {e' : E} {p1 p2 pos : Pos} (O : LawOk L) (hN : N[i]? = some x) (hv : Vis sc.toScope x) (hd : (x == ("__debug__" : Str)) = false) (hcd : (x == ("__classdict__" : Str)) = false) (hf : L.T.nm[kk]? = some f)
    (hs : ∀ l env, swapsWith e (some (.Attribute (.Name x p1) f p2)) l env = pure false) (he : SemE L N sc k e e') : SemS L N sc k (.Assign [.Attribute (.Name x p1) f p2] e pos) (.fld i kk e') := by
  intro X c ρ o h Hf0 H0 Hf H σ S D p
  simp only [run1] at h
  split at h
  · rename_i d hd1
    split at h
    · rename_i cc ks ds hds
      split at h
      · rename_i ks' ds' hput
        split at h
        · rename_i hl
          cases h
          have hl' := of_decide_eq_true hl
          obtain ⟨Hf1, e1, S1⟩ := S.frzL (kept e')
          refine by_ps (ps_fld (pe_var (i := i) (by rw [c.hN]; exact hN) (by rw [c.hsc]; exact hv) hd hcd) (pe_ e) (hs _ _)) (he X c _ d true hd1 Hf0 H0 Hf1 H σ S1 _ fun v H2 Hf2 F g r n => ?_)
          obtain ⟨Hf3, g3, r3, e3⟩ := frozen g r (n rfl)
          obtain ⟨w, G, hσ, hr, nG, fG, dG, up⟩ := S1.mut g3 hds (New.nil (H := H) (Hf' := Hf3))
          obtain ⟨a, dx, fs, rfl, eG, ⟨ea, hins⟩, hn, hrs⟩ := hr
          subst eG
          obtain ⟨q1, q2⟩ := putF_rep O.nm hf r3 hn hrs hput
          have len : fs.length = ds.length := by have := repS_len hrs; simpa using this
          refine ⟨.ref a, hσ, a, _, dx, fs, rfl, hins, c.hK ▸ O.cls cc, c.hK ▸ O.na cc f (List.mem_of_getElem? hf), by rw [len]; exact hl', ?_⟩
          refine p _ Hf3 _ (e1.trans g3.f) (up a (.ins (L.T.cl cc) dx (putF f v fs)) (.obj (some _) cc ks' ds') [a] List.mem_cons_self ?_ nG fun b hb => .inl hb)
          exact ⟨a, dx, _, rfl, rfl, ⟨ea, upd_same⟩, q1, repS_mono (fun _ _ q => q) _ _ _ (fun b hb => by cases hb) q2⟩
        · cases h
      · cases h
    · cases h
  · cases h
end
end Z

/-! Z12: defs and their calls, classes and their objects. -/
namespace Z
open PySem PySem.Spec PyProof.Rows L2
open Evl (Ex ex_l ex_t ex_rd)

/-- a def's promise: what g says of trees -/
def spD (T : Tab) (g : List D → Option D) : Sp := fun vs H Q _ => ∃ Hf ds d, Ex Hf H ∧ repS T Hf H ds vs [] ∧ g ds = some d ∧ Post T Hf H d true Q
/-- an __init__'s: the object at a is filled, then frozen -/
def spI (T : Tab) (c : Nat) (g : Addr → List D → Option D) : Sp := fun vs H Q _ => ∃ a dx vs' Hf ds d, vs = .ref a :: vs' ∧ H a = some (.ins (T.cl c) dx []) ∧ Hf a = none ∧ Ex Hf H ∧ repS T Hf H ds vs' [] ∧ g a ds = some d ∧
  ∀ H' Hf', (∀ b o, H b = some o → b ≠ a → H' b = some o) → Ex Hf Hf' → Ex Hf' H' → (∀ b o, Hf' b = some o → Hf b = some o ∨ H b = none ∨ b = a) → rep T Hf' H' d (.ref a) [] → Q .non H'
/-- what an __init__ makes of a new object -/
def initD (G : Gd) (c : Nat) (F : Def) (a : Addr) (ds : List D) : Option D :=
  if ds.length + 1 = F.ps then match runs G F.body (startR F.n (D.obj (some a) c [] [] :: ds)) with
    | some (.nx ρ) => match ρ[0]? with
      | some (some (D.obj (some b) c' ks fs)) => if c' = c ∧ b = a then some (D.obj none c ks fs) else none
      | _ => none
    | _ => none
  else none

section
variable {T : Tab} {Hf H : Hp}
theorem repE_nones : ∀ n : Nat, repE T Hf H (List.replicate n none) (List.replicate n none) []
  | 0 => ⟨rfl, rfl⟩
  | n + 1 => ⟨none, _, rfl, repE_nones n⟩
theorem repE_start : ∀ {ds : List D} {vs : List V} {F : List Addr} (n : Nat), repS T Hf H ds vs F → repE T Hf H (ds.map some ++ List.replicate n none) (vs.map some ++ List.replicate n none) F
  | [], _, _, n, h => by obtain ⟨rfl, rfl⟩ := h; exact repE_nones n
  | d :: ds, _, _, n, ⟨v, vs, F1, F2, e, f, r, q⟩ => by
    subst e; subst f
    exact ⟨v, _, F1, F2, rfl, rfl, r, repE_start n q⟩
end

section
variable {L : Law} {k : Nat}
def defSc (st : Stmt) : Sc := { C8.fnScope st with fnb := fun _ => true }
theorem cok_def {N : List Str} {qual : Str} {sc : Scope} {f : Addr} {cdv : Value} {A : Around} {outer : List Env} {s : Shared} {H : Hp} {E : XK} (nd : N.Nodup) (hr : Room k (A.deeper (envOfC qual sc s.heap.objs.size f cdv))) :
    Cok L N { sc with fnb := fun _ => true } k (cxOf CX0 L.P L.w L.T.K L.mg L.base N qual sc f cdv A outer s H E).nox where
  prog := rfl
  hw := rfl
  hbase := rfl
  hmg := rfl
  hK := rfl
  hN := rfl
  hsc := rfl
  fn := fun _ _ => rfl
  nd := nd
  calm := fun _ => rfl
  room := hr
  xe := rfl
/-- a def does what its body's language says -/
theorem fn_sound {x qual : Str} {st : Stmt} {f : Addr} {fd : FuncData} {N ps : List Str} (F : C8.Fun L.T.K x qual st f fd) (S : FnScope N ps (C8.fnScope st)) (Df : Def) (hps : Df.ps = ps.length) (hn : Df.n = N.length) (hb : SemSs L N (defSc st) k (C8.fnBody st) Df.body) :
    FnOk L.P L.w L.T.K L.mg L.base CX0 (k + 1) f fd ps (spD L.T (runD L.G Df)) := by
  refine C8.fn0 F S (fun vs H Q E h => ?_) (fun cdv A outer s H vs Q E hr h => ?_)
  · obtain ⟨Hf, ds, d, e, r, hg, p⟩ := h
    unfold runD at hg
    split at hg
    · rename_i hl
      rw [repS_len r, hl, hps]
    · cases hg
  · obtain ⟨Hf, ds, d, e, r, hg, p⟩ := h
    refine ⟨_, pss_ _, ?_⟩
    have len := repS_len r
    unfold runD at hg
    split at hg
    · rename_i hl
      have St0 : StOk L.T Hf H Hf H (startR Df.n ds) (L2.start N vs) := by
        refine ⟨.refl e, [], ?_, New.nil⟩
        unfold startR L2.start
        rw [hn, len]
        exact repE_start _ r
      split at hg
      · rename_i ρ hrun
        cases hg
        exact hb _ (cok_def S.nd hr) _ _ hrun Hf H Hf H _ St0 _ fun σ' Hf' H' _ S' => p .non H' Hf' [] S'.gr ⟨rfl, rfl⟩ fun _ => New.nil
      · rename_i d' hrun
        cases hg
        exact hb _ (cok_def S.nd hr) _ _ hrun Hf H Hf H _ St0 _ fun v Hf' H' F' g r' n => p v H' Hf' F' g r' fun _ => n
      · cases hg
    · cases hg
/-- an __init__ does -/
theorem init_sound {x qual : Str} {st : Stmt} {f : Addr} {fd : FuncData} {N ps : List Str} {cc : Nat} (F : C8.Fun L.T.K x qual st f fd) (S : FnScope N ps (C8.fnScope st)) (Df : Def) (hps : Df.ps = ps.length) (hn : Df.n = N.length) (hb : SemSs L N (defSc st) k (C8.fnBody st) Df.body) :
    FnOk L.P L.w L.T.K L.mg L.base CX0 (k + 1) f fd ps (spI L.T cc (initD L.G cc Df)) := by
  refine C8.fn0 F S (fun vs H Q E h => ?_) (fun cdv A outer s H vs Q E hr h => ?_)
  · obtain ⟨a, dx, vs', Hf, ds, d, rfl, ha, hfa, e, r, hg, p⟩ := h
    unfold initD at hg
    split at hg
    · rename_i hl
      rw [List.length_cons, repS_len r, hl, hps]
    · cases hg
  · obtain ⟨a, dx, vs', Hf, ds, d, rfl, ha, hfa, e, r, hg, p⟩ := h
    refine ⟨_, pss_ _, ?_⟩
    have len := repS_len r
    unfold initD at hg
    split at hg
    · rename_i hl
      have e0 : Ex (fun b => if b = a then none else H b) H := fun b o q => by
        by_cases hb : b = a
        · have q' : (if b = a then none else H b) = some o := q
          rw [if_pos hb] at q'; cases q'
        · have q' : (if b = a then none else H b) = some o := q
          rw [if_neg hb] at q'; exact q'
      have St0 : StOk L.T Hf (fun b => if b = a then none else H b) Hf H (startR Df.n (D.obj (some a) cc [] [] :: ds)) (L2.start N (.ref a :: vs')) := by
        refine ⟨⟨e0, Evl.Ex.refl _, e, fun _ _ q => .inl q⟩, [a], ?_, ⟨List.nodup_cons.mpr ⟨by simp, .nil⟩, fun b hb => ?_, fun b hb => ?_⟩⟩
        · unfold startR L2.start
          rw [hn]
          have e1 : (D.obj (some a) cc [] [] :: ds).length = (V.ref a :: vs').length := by simp [len]
          rw [e1]
          refine repE_start _ ⟨.ref a, vs', [a], [], rfl, rfl, ⟨a, dx, [], rfl, rfl, ⟨rfl, ha⟩, rfl, rfl, rfl⟩, r⟩
        · cases List.mem_singleton.mp hb
          show (if a = a then none else H a) = none
          rw [if_pos rfl]
        · cases List.mem_singleton.mp hb
          exact hfa
      split at hg
      · rename_i ρ hrun
        split at hg
        · rename_i b c' ks fs hρ
          split at hg
          · rename_i hcc
            cases hg
            obtain ⟨hcc, hba⟩ := hcc
            subst hcc; subst hba
            refine hb _ (cok_def S.nd hr) _ _ hrun _ _ Hf H _ St0 _ fun σ' Hf' H' _ S' => ?_
            obtain ⟨F, r', n⟩ := S'.own
            obtain ⟨v, G, A, C, h1, h2, h3⟩ := repE_get r' hρ
            obtain ⟨a2, dx', fs', rfl, eG, ⟨ea, hins⟩, hn, hrs⟩ := h2
            subst ea; subst eG
            have hm : a2 ∈ F := by rw [h3]; exact List.mem_append_right _ (List.mem_append_left _ List.mem_cons_self)
            have hk : ∀ b ∈ [a2], Hf' b = none := fun b hb => by cases List.mem_singleton.mp hb; exact n.f _ hm
            refine p H' (plus Hf' H' [a2]) (fun b o q ne => S'.gr.e b o ?_) (fun b o q => plus_ex hk b o (S'.gr.f b o q)) (plus_sub S'.gr.s) (fun b o q => ?_) ⟨a2, dx', fs', rfl, rfl, plus_in a2 List.mem_cons_self _ hins, hn, repS_mono (plus_ex hk) _ _ _ (fun b hb => by cases hb) hrs⟩
            · show (if b = a2 then none else H b) = some o
              rw [if_neg ne]; exact q
            · by_cases hb : b = a2
              · exact .inr (.inr hb)
              · unfold plus at q
                rw [if_neg (by simpa using hb)] at q
                rcases S'.gr.n b o q with z | z
                · exact .inl z
                · have z' : (if b = a2 then none else H b) = none := z
                  rw [if_neg hb] at z'
                  exact .inr (.inl z')
          · cases hg
        · cases hg
      · cases hg
    · cases hg
end
end Z

/-! Z13: calls of own defs, methods, constructors. -/
namespace Z
open PySem PySem.Spec PyProof.Rows L2
open Evl (Ex ex_l ex_t ex_rd)

section
variable {T : Tab} {Hf H Hf1 H1 : Hp}
theorem frozenS {ds : List D} {vs : List V} {F : List Addr} (g : Gr Hf H Hf1 H1) (r : repS T Hf1 H1 ds vs F) (n : New H Hf1 F) : ∃ Hf2, Gr Hf H Hf2 H1 ∧ repS T Hf2 H1 (frzS ds) vs [] ∧ Ex Hf1 Hf2 :=
  ⟨plus Hf1 H1 F, plus_gr g n, repS_frz (plus_ex n.f) _ _ _ (fun a ha o q => plus_in a ha o q) r, plus_ex n.f⟩
theorem no_fld {fs : List (Str × V)} {ks : List Nat} {m : Str} (hn : fs.map (fun p => some p.1) = ks.map (fun k => T.nm[k]?)) (hm : m ∉ T.nm) : fs.lookup m = none := by
  cases h : fs.lookup m with
  | none => rfl
  | some v =>
    exfalso
    have : m ∈ fs.map (·.1) := by
      induction fs generalizing ks with
      | nil => cases h
      | cons p fs ih =>
        obtain ⟨y, w⟩ := p
        cases ks with
        | nil => cases hn
        | cons j ks =>
          rw [List.map_cons, List.map_cons] at hn
          injection hn with e1 e2
          rw [List.lookup_cons] at h
          by_cases hy : (m == y) = true
          · rw [eq_of_beq hy]; exact List.mem_cons_self
          · have hy' : (m == y) = false := by simpa using hy
            rw [hy'] at h
            exact List.mem_cons_of_mem _ (ih e2 h)
    obtain ⟨p, hp, e⟩ := List.mem_map.mp this
    have h2 : some m ∈ fs.map (fun p => some p.1) := List.mem_map.mpr ⟨p, hp, by rw [e]⟩
    rw [hn] at h2
    obtain ⟨j, _, e2⟩ := List.mem_map.mp h2
    exact hm (List.mem_of_getElem? e2)
end

section
variable {L : Law} {N : List Str} {sc : Sc} {k : Nat}
/-- a def of the module is called -/
theorem sem_call {dvs : List V} {f k' : Nat} {x : Str} {e : Expr} {es : List Expr} {es' : Es} {dd : List D} {p0 pos : Pos} (C : C8.Cal L.P L.w L.T.K L.mg L.base k' x (spD L.T (L.G.call f)) dvs) (hdv : ∀ Hf H, repS L.T Hf H dd dvs []) (hk : k' ≤ k) (hg : sc.names.lookup x = some .globalImplicit)
    (hdb : (x == ("__debug__" : Str)) = false) (hs : ∀ env, starEach (e :: es) env = (false, eval e env) :: starEach es env) (hpl : ∀ pos env, (backTo pos (starEach es env)).any (·.1) = false) (ha : SemA L N sc k (e :: es) es') :
    SemE L N sc k (.Call (.Name x p0) (e :: es) [] pos) (.call f es' dd) := by
  intro X c ρ d fr h Hf0 H0 Hf H σ S Q p
  simp only [ev] at h
  split at h
  · rename_i ds e1
    split at h
    · rename_i hdd
      cases hd : L.G.call f (frzS ds ++ dd) with
      | none => rw [hd] at h; cases h
      | some d' =>
        rw [hd] at h
        cases h
        have C' : C8.Cal X.prog X.w X.K X.mg X.base k' x (spD L.T (L.G.call f)) dvs := by rw [c.prog, c.hw, c.hK, c.hmg, c.hbase]; exact C
        refine by_pe (C8.pe_c C' c.room hk (c.gl hg) (pa_ _) hdb (hs _) (hpl _ _)) (ha X c ρ ds true e1 Hf0 H0 Hf H σ S _ fun vs H1 Hf1 F1 g1 r1 n1 => ?_)
        obtain ⟨Hf2, g2, r2, _⟩ := frozenS g1 r1 (n1 rfl)
        exact ⟨Hf2, frzS ds ++ dd, _, g2.s, repS_append r2 (hdv _ _), hd, p.grow g2⟩
    · cases h
  · cases h
theorem sem_call0 {dvs : List V} {f k' : Nat} {x : Str} {dd : List D} {p0 pos : Pos} (C : C8.Cal L.P L.w L.T.K L.mg L.base k' x (spD L.T (L.G.call f)) dvs) (hdv : ∀ Hf H, repS L.T Hf H dd dvs []) (hk : k' ≤ k) (hg : sc.names.lookup x = some .globalImplicit)
    (hdb : (x == ("__debug__" : Str)) = false) : SemE L N sc k (.Call (.Name x p0) [] [] pos) (.call f .nil dd) := by
  intro X c ρ d fr h Hf0 H0 Hf H σ S Q p
  simp only [ev, evs] at h
  split at h
  · rename_i hdd
    cases hd : L.G.call f (frzS [] ++ dd) with
    | none => rw [hd] at h; cases h
    | some d' =>
      rw [hd] at h
      cases h
      have C' : C8.Cal X.prog X.w X.K X.mg X.base k' x (spD L.T (L.G.call f)) dvs := by rw [c.prog, c.hw, c.hK, c.hmg, c.hbase]; exact C
      obtain ⟨f', fd, ps, dvs, F, hm, kp, b, dv⟩ := C'.ex
      refine by_pe (pe_call0 (E := C8.E0) F (c.room.mono hk) (c.gl hg) hm kp b dv C8.pass0 hdb) ?_
      exact ⟨Hf, frzS [] ++ dd, _, S.sub, hdv _ _, hd, p⟩
  · cases h
/-- a method -/
theorem sem_meth {a e : Expr} {es : List Expr} {a' : E} {es' : Es} {m : Nat} {x : Str} {k' : Nat} {apos pos : Pos} {pl : Sem Bool} (hm : x ∉ L.T.nm) (M : ∀ c f, L.G.meth c m = some f → C8.Met L.P L.w L.T.K L.mg L.base k' (L.T.cl c) x (spD L.T (L.G.call f)) []) (hk : k' ≤ k)
    (hs : ∀ env, starEach (e :: es) env = (false, eval e env) :: starEach es env) (hpl : ∀ pos env, (backTo pos (starEach es env)).any (·.1) = false)
    (ht : ∀ env, eval (.Call (.Attribute a x apos) (e :: es) [] pos) env = (do
      let ov ← eval a env
      standAt apos.atName
      let (f, first) ← holding [ov] (getMethod ov x pl)
      callWith pos f first (backTo pos (starEach (e :: es) env)) (backToKw pos (keywordEach [] env))))
    (ha : SemE L N sc k a a') (hes : SemA L N sc k (e :: es) es') : SemE L N sc k (.Call (.Attribute a x apos) (e :: es) [] pos) (.meth m a' es') := by
  intro X c ρ d fr h Hf0 H0 Hf H σ S Q p
  simp only [ev] at h
  split at h
  · rename_i cc ks fs f1 ds e2 e1
    split at h
    · rename_i f hf
      cases hd : L.G.call f (.obj none cc ks fs :: frzS ds) with
      | none => rw [hd] at h; cases h
      | some d' =>
        rw [hd] at h
        cases h
        have M' : C8.Met X.prog X.w X.K X.mg X.base k' (L.T.cl cc) x (spD L.T (L.G.call f)) [] := by rw [c.prog, c.hw, c.hK, c.hmg, c.hbase]; exact M cc f hf
        refine by_pe (C8.pe_mt (pl := pl) M' c.room hk (pe_ a) (pa_ _) (hs _) (hpl _ _) (ht _)) (ha X c ρ _ f1 e2 Hf0 H0 Hf H σ S _ fun v H1 Hf1 F1 g1 r1 n1 => ?_)
        have r1' := r1
        obtain ⟨b, dx, fs', rfl, hF, hb, hn, hr⟩ := r1
        refine ⟨b, dx, fs', rfl, g1.s _ _ hb, no_fld hn hm, hes X c ρ ds true e1 Hf0 H0 Hf1 H1 σ (S.grow g1) _ fun vs H2 Hf2 F2 g2 r2 n2 => ?_⟩
        obtain ⟨Hf3, g3, r3, _⟩ := frozenS g2 r2 (n2 rfl)
        subst hF
        refine ⟨Hf3, .obj none cc ks fs :: frzS ds, _, g3.s, ⟨.ref b, _, [], [], rfl, rfl, rep_mono g3.f _ _ _ (fun a ha => by cases ha) r1', ?_⟩, hd, p.grow (g1.trans g3)⟩
        rw [List.append_nil]; exact r3
    · cases h
  · cases h
theorem sem_meth0 {a : Expr} {a' : E} {m : Nat} {x : Str} {k' : Nat} {apos pos : Pos} {pl : Sem Bool} (hm : x ∉ L.T.nm) (M : ∀ c f, L.G.meth c m = some f → C8.Met L.P L.w L.T.K L.mg L.base k' (L.T.cl c) x (spD L.T (L.G.call f)) []) (hk : k' ≤ k)
    (ht : ∀ env, eval (.Call (.Attribute a x apos) [] [] pos) env = (do
      let ov ← eval a env
      standAt apos.atName
      let (f, first) ← holding [ov] (getMethod ov x pl)
      callWith pos f first (backTo pos (starEach [] env)) (backToKw pos (keywordEach [] env))))
    (ha : SemE L N sc k a a') : SemE L N sc k (.Call (.Attribute a x apos) [] [] pos) (.meth m a' .nil) := by
  intro X c ρ d fr h Hf0 H0 Hf H σ S Q p
  simp only [ev, evs] at h
  split at h
  · rename_i cc ks fs f1 ds e2 e1
    cases e1
    split at h
    · rename_i f hf
      cases hd : L.G.call f (.obj none cc ks fs :: frzS []) with
      | none => rw [hd] at h; cases h
      | some d' =>
        rw [hd] at h
        cases h
        have M' : C8.Met X.prog X.w X.K X.mg X.base k' (L.T.cl cc) x (spD L.T (L.G.call f)) [] := by rw [c.prog, c.hw, c.hK, c.hmg, c.hbase]; exact M cc f hf
        refine by_pe (C8.pe_mt0 (pl := pl) M' c.room hk (pe_ a) (ht _)) (ha X c ρ _ f1 e2 Hf0 H0 Hf H σ S _ fun v H1 Hf1 F1 g1 r1 n1 => ?_)
        have r1' := r1
        obtain ⟨b, dx, fs', rfl, hF, hb, hn, hr⟩ := r1
        subst hF
        exact ⟨b, dx, fs', rfl, g1.s _ _ hb, no_fld hn hm, Hf1, .obj none cc ks fs :: frzS [], _, g1.s, ⟨.ref b, _, [], [], rfl, rfl, r1', ⟨rfl, rfl⟩⟩, hd, p.grow g1⟩
    · cases h
  · cases h
/-- a constructor -/
theorem mk_made {Hf H Hf2 H1 : Hp} {c : Nat} {ds : List D} {vs : List V} {d : D} {Q : VK} {g : Addr → List D → Option D} (g2 : Gr Hf H Hf2 H1) (r : repS L.T Hf2 H1 ds vs []) (hd : ∀ a, g a ds = some d) (p : Post L.T Hf H d true Q) :
    ∀ x dx, H1 x = none → H1 dx = none → dx ≠ x → spI L.T c g (.ref x :: vs) (upd (upd H1 dx (.own x)) x (.ins (L.T.cl c) dx [])) (fun v H2 => v = .non ∧ Q (.ref x) H2) C8.E0 := by
  intro x dx hx hdx ne
  have up : ∀ b o, H1 b = some o → upd (upd H1 dx (.own x)) x (.ins (L.T.cl c) dx []) b = some o := fun b o q => by
    rw [upd_ne (ne_of_none q hx), upd_ne (ne_of_none q hdx)]; exact q
  refine ⟨x, dx, vs, Hf2, ds, d, rfl, upd_same, none_back g2.s hx, fun b o q => up b o (g2.s b o q), repS_mono (fun _ _ q => q) _ _ _ (fun _ h => by cases h) r, hd x, fun H' Hf' k1 k2 k3 k4 k5 => ⟨rfl, ?_⟩⟩
  refine p (.ref x) H' Hf' [] (g2.trans ⟨fun b o q => k1 b o (up b o q) (ne_of_none q hx), k2, k3, fun b o q => ?_⟩) k5 fun _ => New.nil
  rcases k4 b o q with z | z | z
  · exact .inl z
  · refine .inr ?_
    cases hb : H1 b with
    | none => rfl
    | some u => rw [up b u hb] at z; cases z
  · subst z; exact .inr hx
theorem sem_mk {dvs : List V} {cc k' : Nat} {x : Str} {e : Expr} {es : List Expr} {es' : Es} {dd : List D} {p0 pos : Pos} {g : Addr → List D → Option D} (C : C8.Mak L.P L.w L.T.K L.mg L.base k' x (L.T.cl cc) (spI L.T cc g) dvs) (hdv : ∀ Hf H, repS L.T Hf H dd dvs []) (hG : ∀ ds d, L.G.new cc ds = some d → ∀ a, g a ds = some d) (hk : k' + 1 ≤ k)
    (hg : sc.names.lookup x = some .globalImplicit) (hdb : (x == ("__debug__" : Str)) = false) (hs : ∀ env, starEach (e :: es) env = (false, eval e env) :: starEach es env) (hpl : ∀ pos env, (backTo pos (starEach es env)).any (·.1) = false) (ha : SemA L N sc k (e :: es) es') :
    SemE L N sc k (.Call (.Name x p0) (e :: es) [] pos) (.mk cc es' dd) := by
  intro X c ρ d fr h Hf0 H0 Hf H σ S Q p
  simp only [ev] at h
  split at h
  · rename_i ds e1
    split at h
    · rename_i hdd
      cases hd : L.G.new cc (frzS ds ++ dd) with
      | none => rw [hd] at h; cases h
      | some d' =>
        rw [hd] at h
        cases h
        have C' : C8.Mak X.prog X.w X.K X.mg X.base k' x (L.T.cl cc) (spI L.T cc g) dvs := by rw [c.prog, c.hw, c.hK, c.hmg, c.hbase]; exact C
        refine by_pe (C8.pe_mk C' c.room hk (c.gl hg) (pa_ _) hdb (hs _) (hpl _ _)) (ha X c ρ ds true e1 Hf0 H0 Hf H σ S _ fun vs H1 Hf1 F1 g1 r1 n1 => ?_)
        obtain ⟨Hf2, g2, r2, _⟩ := frozenS g1 r1 (n1 rfl)
        exact mk_made g2 (repS_append r2 (hdv _ _)) (hG _ _ hd) p
    · cases h
  · cases h
theorem sem_mk0 {dvs : List V} {cc k' : Nat} {x : Str} {dd : List D} {p0 pos : Pos} {g : Addr → List D → Option D} (C : C8.Mak L.P L.w L.T.K L.mg L.base k' x (L.T.cl cc) (spI L.T cc g) dvs) (hdv : ∀ Hf H, repS L.T Hf H dd dvs []) (hG : ∀ ds d, L.G.new cc ds = some d → ∀ a, g a ds = some d) (hk : k' + 1 ≤ k)
    (hg : sc.names.lookup x = some .globalImplicit) (hdb : (x == ("__debug__" : Str)) = false) : SemE L N sc k (.Call (.Name x p0) [] [] pos) (.mk cc .nil dd) := by
  intro X c ρ d fr h Hf0 H0 Hf H σ S Q p
  simp only [ev, evs] at h
  split at h
  · rename_i hdd
    cases hd : L.G.new cc (frzS [] ++ dd) with
    | none => rw [hd] at h; cases h
    | some d' =>
      rw [hd] at h
      cases h
      have C' : C8.Mak X.prog X.w X.K X.mg X.base k' x (L.T.cl cc) (spI L.T cc g) dvs := by rw [c.prog, c.hw, c.hK, c.hmg, c.hbase]; exact C
      obtain ⟨f', fd, ps, dvs, M, F, hm, b, dv⟩ := C'.ex
      refine by_pe (pe_make0 (E := C8.E0) M F (c.room.mono hk) (c.gl hg) hm b dv C8.pass0 hdb) ?_
      exact mk_made (.refl S.sub) (hdv _ _) (hG _ _ hd) p
  · cases h
end
end Z

/-! Z14: operators, comparisons, len of own objects. -/
namespace Z
open PySem PySem.Spec PyProof.Rows L2
open Evl (Ex ex_l ex_t ex_rd)

/-- the name of a special def -/
def spN : Sp1 → Str
  | .bin op => PySem.dunder op.info.2
  | .cmp .Eq => (cmpInfo .Eq).2.1
  | .cmp .In => "__contains__"
  | .cmp op => (cmpInfo op).2.1
  | .len => "__len__"
  | .iter => "__iter__"
/-- a special def of the class at C -/
structure Own (P : Program) (w : World) (K : PySem.W.Frag) (mg : Str → Option Value) (base : Heap) (k : Nat) (C : Addr) (nm : Str) (sp : Sp) : Prop where
  ex : ∃ (f : Addr) (fd : FuncData) (ps : List Str), FnOk P w K mg base C8.CX0 k f fd ps sp ∧ Binds K fd ps [] ∧ PySem.W.findIn K (.ref C) nm = some (some (.ref f)) ∧ PySem.W.isFn K (.ref f) = true
/-- all special defs of the law -/
structure Specs (L : Law) (k : Nat) : Prop where
  own : ∀ c s f, L.G.spec c s = some f → Own L.P L.w L.T.K L.mg L.base k (L.T.cl c) (spN s) (spD L.T (L.G.call f))
  first : ∀ c op f, L.G.spec c (.bin op) = some f → PySem.W.selfFirst L.T.K (L.T.cl c) = true
section
variable {L : Law} {N : List Str} {sc : Sc} {k k' : Nat}
/-- the call of a special def -/
theorem own_call {X : Cx} (c : Cok L N sc k X) {A : Around} (hr : Room k' A) (hfr : A.frames = X.A.frames) {f : Addr} {fd : FuncData} {ps : List Str} {g : List D → Option D} (F : FnOk L.P L.w L.T.K L.mg L.base C8.CX0 k' f fd ps (spD L.T g)) (hb : Binds L.T.K fd ps [])
    {pins : List (Addr × Obj)} {σ : L2.St} {H Hf : Hp} {s : Shared} {vs : List V} {us : List Value} {ds : List D} {d : D} {Q : VK} (I : Inv X pins σ H s) (r : Vals vs us) (e : Ex Hf H) (rd : repS L.T Hf H ds vs []) (hg : g ds = some d) (p : Post L.T Hf H d true Q) :
    wpAny (model X.prog X.w) A (call (.ref f) us) (fun u s' => ∃ v H' Hf' F, Inv X pins σ H' s' ∧ RelV v u ∧ rep L.T Hf' H' d v F ∧ Q v H') X.xe s := by
  have e0 : Env0 X.prog X.w X.K X.mg X.base A X.stack s H := by
    have e := I.env0
    exact ⟨by rw [hfr]; exact e.frames, e.mod, e.bs, e.bsz, e.funs, e.frf, e.hok, e.bare⟩
  have hsp : spD L.T g vs H (fun v H' => ∃ Hf' F, rep L.T Hf' H' d v F ∧ Q v H') C8.E0 := ⟨Hf, ds, d, e, rd, hg, fun v H' Hf' F g r n => ⟨Hf', F, r, p v H' Hf' F g r n⟩⟩
  have hl := F.len _ _ _ _ hsp
  have F' : FnOk X.prog X.w X.K X.mg X.base C8.CX0 k' f fd ps (spD L.T g) := by rw [c.prog, c.hw, c.hK, c.hmg, c.hbase]; exact F
  have hb' : Binds X.K fd ps [] := by rw [c.hK]; exact hb
  refine wpAny_call (codeAny_mono (F'.run A X.stack s H ⟨us, []⟩ us vs _ C8.E0 hr e0 (by
    have := hb' s us I.kIn (by rw [List.append_nil, ← r.length]; exact hl)
    simpa using this) r hsp) fun r s' hq => ?_)
  cases r with
  | error e => exact False.elim hq
  | ok fl =>
    cases fl with
    | ret w =>
      obtain ⟨v, H', I', rv, Hf', F, rr, q⟩ := I.after hq
      exact ⟨v, H', Hf', F, I', rv, rr, q⟩
    | next => exact False.elim hq
    | brk => exact False.elim hq
    | cont => exact False.elim hq
theorem cmpBack {Q : Value → Shared → Prop} {u : Value} {s : Shared} {T : Tab} {Hf H : Hp} {d : D} {v : V} {F : List Addr} (rv : RelV v u) (r : rep T Hf H d v F) (h : Q u s) : PySem.W.CmpBack Q u s := by
  cases u <;> first | exact h | skip
  exfalso
  cases d with
  | lst m ds => cases m with
    | own => obtain ⟨a, xs, G, e, _⟩ := r; subst e; cases rv
    | fz => obtain ⟨a, xs, e, _⟩ := r; subst e; cases rv
    | ro => obtain ⟨a, xs, e, _⟩ := r; subst e; cases rv
  | tup ds => obtain ⟨a, xs, e, _⟩ := r; subst e; cases rv
  | obj m c ks ds => cases m with
    | some _ => obtain ⟨a, xs, G, e, _⟩ := r; subst e; cases rv
    | none => obtain ⟨a, xs, G, e, _⟩ := r; subst e; cases rv
  | _ => have e := r.1; subst e; first | (obtain ⟨t, e⟩ := rv; cases e) | cases rv
theorem callS_inv {G : Gd} {c : Nat} {s : Sp1} {ds : List D} {d : D} (h : callS G c s ds = some d) : ∃ f, G.spec c s = some f ∧ G.call f ds = some d := by
  unfold callS at h
  split at h
  · exact ⟨_, by assumption, h⟩
  · cases h
theorem opT_binG (S : Specs L k') (hk : k' ≤ k) (op : Operator) : OpT L k (binaryOp op) (binG L.G op) := by
  intro X N sc c pins s σ Hf H x y v u d1 d2 d F1 F2 Q I rx ry e r1 r2 hd p
  unfold binG at hd
  split at hd
  · rename_i c1 ks ds c2 ks' ds'
    split at hd
    · rename_i hcc
      subst hcc
      obtain ⟨f, hf, hc⟩ := callS_inv hd
      obtain ⟨g, fd, ps, F, hb, hs, hi⟩ := (S.own _ _ _ hf).ex
      have r1' := r1; have r2' := r2
      obtain ⟨a, dx, fs, rfl, rfl, ha, _, _⟩ := r1
      obtain ⟨b, dy, gs, rfl, rfl, hb2, _, _⟩ := r2
      cases rx
      cases ry
      obtain ⟨mA, J, _⟩ := ins_get I.hok (e _ _ ha)
      obtain ⟨mB, J', _⟩ := ins_get I.hok (e _ _ hb2)
      obtain ⟨od, J, _⟩ := J.look
      obtain ⟨od', J', _⟩ := J'.look
      obtain ⟨m, hF⟩ := I.fr
      refine PySem.W.binop_K hF I.ok.mod.kin J J'.type (c.hK ▸ S.first _ _ _ hf) (c.hK ▸ hs) (c.hK ▸ hi) ?_
      refine wpAny_mono (own_call (A := X.A) c (c.room.mono hk) rfl F hb I (vs := [.ref a, .ref b]) (ds := [.obj none _ ks ds, .obj none _ ks' ds']) (.cons rfl (.cons rfl .nil)) e ⟨_, _, [], [], rfl, rfl, r1', _, _, [], [], rfl, rfl, r2', rfl, rfl⟩ hc p) (fun u' s' z => ?_) fun _ _ z => z
      obtain ⟨v', H', Hf', F', I', rv, rr, q⟩ := z
      exact cmpBack rv rr ⟨v', H', I', rv, q⟩
    · cases hd
  · exact opT_bin op X N sc c pins s σ Hf H x y v u d1 d2 d F1 F2 Q I rx ry e r1 r2 hd p
theorem blOf_inv {o : Option D} {b : Bool} (h : blOf o = some b) : o = some (.bl b) := by
  unfold blOf at h
  split at h
  · cases h; rfl
  · cases h
theorem frz_of_fz {d : D} {T : Tab} {Hf H : Hp} {v : V} {F : List Addr} (r : rep T Hf H d v F) (h : d.fz = true) : rep T Hf H (frz d) v [] := by
  have e := fz_nil r h
  subst e
  exact rep_frz (fun _ _ q => q) d v [] (fun _ hb => by cases hb) r
theorem opT_cmpG (S : Specs L k') (hk : k' ≤ k) (op : CmpOp) : OpT L k (compareOp op) (cmpBG L.G op) := by
  intro X N sc c pins s σ Hf H x y v u d1 d2 d F1 F2 Q I rx ry e r1 r2 hd p
  unfold cmpBG at hd
  cases hb : cmpG L.G op d1 d2 with
  | none => rw [hb] at hd; cases hd
  | some bb =>
    rw [hb] at hd
    cases hd
    unfold cmpG at hb
    split at hb
    · rename_i c1 ks ds c2 ks' ds'
      split at hb
      · rename_i hcc
        subst hcc
        obtain ⟨f, hf, hc⟩ := callS_inv (blOf_inv hb)
        obtain ⟨g, fd, ps, F, hb', hs, hi⟩ := (S.own _ _ _ hf).ex
        have r1' := r1; have r2' := r2
        obtain ⟨a, dx, fs, rfl, rfl, ha, _, _⟩ := r1
        obtain ⟨b, dy, gs, rfl, rfl, hb2, _, _⟩ := r2
        cases rx
        cases ry
        obtain ⟨mA, J, _⟩ := ins_get I.hok (e _ _ ha)
        obtain ⟨mB, J', _⟩ := ins_get I.hok (e _ _ hb2)
        obtain ⟨od, J, _⟩ := J.look
        obtain ⟨od', J', _⟩ := J'.look
        obtain ⟨m, hF⟩ := I.fr
        show wpAny (model X.prog X.w) X.A (richCompare .Eq _ _) (EP X pins σ Q) X.xe s
        refine PySem.W.cmp_K (op := .Eq) c.room.units0 hF I.ok.mod.kin J J'.type (by simp [PySem.W.notFirst]) (c.hK ▸ hs) (c.hK ▸ hi) ?_
        refine wpAny_mono (own_call (A := X.A) c (c.room.mono hk) rfl F hb' I (vs := [.ref a, .ref b]) (ds := [.obj none _ ks ds, .obj none _ ks' ds']) (.cons rfl (.cons rfl .nil)) e ⟨_, _, [], [], rfl, rfl, r1', _, _, [], [], rfl, rfl, r2', rfl, rfl⟩ hc p) (fun u' s' z => ?_) fun _ _ z => z
        obtain ⟨v', H', Hf', F', I', rv, rr, q⟩ := z
        exact cmpBack rv rr ⟨v', H', I', rv, q⟩
      · cases hb
    · rename_i c1 ks ds
      split at hb
      · rename_i hz
        obtain ⟨f, hf, hc⟩ := callS_inv (blOf_inv hb)
        obtain ⟨g, fd, ps, F, hb', hs, hi⟩ := (S.own _ _ _ hf).ex
        have r2' := r2
        obtain ⟨b, dy, gs, rfl, rfl, hb2, _, _⟩ := r2
        cases ry
        obtain ⟨mB, J', _⟩ := ins_get I.hok (e _ _ hb2)
        obtain ⟨od', J', _⟩ := J'.look
        obtain ⟨m, hF⟩ := I.fr
        refine PySem.W.in_K hF I.ok.mod.kin J' (c.hK ▸ hs) (c.hK ▸ hi) ?_
        refine wpAny_mono (own_call (A := X.A) c (c.room.mono hk) rfl F hb' I (vs := [.ref b, x]) (ds := [.obj none _ ks ds, frz d1]) (.cons rfl (.cons rx .nil)) e ⟨_, _, [], [], rfl, rfl, r2', _, _, [], [], rfl, rfl, frz_of_fz r1 hz, rfl, rfl⟩ hc p) (fun u' s' z => ?_) fun _ _ z => z
        obtain ⟨v', H', Hf', F', I', rv, rr, q⟩ := z
        have e1 := rr.1
        subst e1
        cases rv
        exact wpAny_truthy_bool ⟨.bl bb, H', I', rfl, q⟩
      · cases hb
    · rename_i c1 ks ds
      split at hb
      · rename_i hz
        cases hb2 : blOf (callS L.G c1 (.cmp .In) [.obj none c1 ks ds, frz d1]) with
        | none => rw [hb2] at hb; cases hb
        | some b0 =>
          rw [hb2] at hb
          cases hb
          obtain ⟨f, hf, hc⟩ := callS_inv (blOf_inv hb2)
          obtain ⟨g, fd, ps, F, hb', hs, hi⟩ := (S.own _ _ _ hf).ex
          have r2' := r2
          obtain ⟨b, dy, gs, rfl, rfl, hb2, _, _⟩ := r2
          cases ry
          obtain ⟨mB, J', _⟩ := ins_get I.hok (e _ _ hb2)
          obtain ⟨od', J', _⟩ := J'.look
          obtain ⟨m, hF⟩ := I.fr
          refine PySem.W.notIn_K hF I.ok.mod.kin J' (c.hK ▸ hs) (c.hK ▸ hi) ?_
          refine wpAny_mono (own_call (A := X.A) (Q := fun v H' => ∃ b, v = .bl b ∧ Q (.bl (!b)) H') c (c.room.mono hk) rfl F hb' I (vs := [.ref b, x]) (ds := [.obj none _ ks ds, frz d1]) (.cons rfl (.cons rx .nil)) e ⟨_, _, [], [], rfl, rfl, r2', _, _, [], [], rfl, rfl, frz_of_fz r1 hz, rfl, rfl⟩ hc (fun v1 H1 Hf1 F1 g1 r1 n1 => ⟨_, r1.1, p.flat g1 rfl⟩)) (fun u' s' z => ?_) fun _ _ z => z
          obtain ⟨v', H', Hf', F', I', rv, rr, b1, e1, q⟩ := z
          subst e1
          cases rv
          exact wpAny_truthy_bool ⟨.bl (!b1), H', I', rfl, q⟩
      · cases hb
    · exact opT_cmp op X N sc c pins s σ Hf H x y v u d1 d2 _ F1 F2 Q I rx ry e r1 r2 (by unfold cmpB; rw [hb]; rfl) p
theorem bltG_ne {b : Bn} (h : b ≠ .len) (G : Gd) : bltG G b = bltD b := by
  funext ds
  unfold bltG
  split
  · exact absurd rfl h
  · rfl
theorem lnOf_inv {o : Option D} {d : D} (h : lnOf o = some d) : ∃ n, o = some (.int n) ∧ d = .int n ∧ 0 ≤ n ∧ n < 2 ^ 63 := by
  unfold lnOf at h
  split at h
  · split at h
    · rename_i hc
      rw [Bool.and_eq_true, decide_eq_true_eq, decide_eq_true_eq] at hc
      cases h
      exact ⟨_, rfl, rfl, hc.1, hc.2⟩
    · cases h
  · cases h
theorem callT_lenG (S : Specs L k') (hk : k' + 1 ≤ k) : CallT L k (.builtin "len") (bltG L.G .len) := by
  intro X N sc c hh pins s σ H xs us Q I rx ⟨Hf, ds, F, d, e, r, hd, p⟩
  unfold bltG at hd
  split at hd
  · rename_i c1 ks fs _
    obtain ⟨n, hc, rfl, h0, h1⟩ := lnOf_inv hd
    obtain ⟨f, hf, hc⟩ := callS_inv hc
    obtain ⟨g, fd, ps, F, hb', hs, hi⟩ := (S.own _ _ _ hf).ex
    obtain ⟨v, rfl, r1⟩ := repS_1 r
    have r1' := r1
    obtain ⟨a, dx, gs, rfl, rfl, ha, _, _⟩ := r1
    obtain ⟨u, us', rfl, ru, rn⟩ : ∃ u us', us = u :: us' ∧ RelV (.ref a) u ∧ Vals [] us' := by cases rx with | cons h t => exact ⟨_, _, rfl, h, t⟩
    cases rn
    cases ru
    obtain ⟨mB, J, _⟩ := ins_get I.hok (e _ _ ha)
    obtain ⟨od, J, _⟩ := J.look
    obtain ⟨m, hF⟩ := I.fr
    refine PySem.W.len_K hF I.ok.mod.kin J (c.hK ▸ hs) (c.hK ▸ hi) ?_
    refine wpAny_mono (own_call (A := X.A.in1) c ((c.room.mono hk).in1) rfl F hb' I (vs := [.ref a]) (ds := [.obj none _ ks fs]) (.cons rfl .nil) e ⟨_, _, [], [], rfl, rfl, r1', rfl, rfl⟩ hc p) (fun u' s' z => ?_) fun _ _ z => z
    obtain ⟨v', H', Hf', F', I', rv, rr, q⟩ := z
    have e1 := rr.1
    subst e1
    obtain ⟨t, rfl⟩ := rv
    refine ⟨⟨h0, h1⟩, .int n, H', ?_, ⟨_, rfl⟩, q⟩
    exact I'.tok _
  · exact callT_len X N sc c hh pins s σ H xs us Q I rx ⟨Hf, _, F, d, e, r, hd, p⟩
end
end Z

/-! Z15: enumerate and zip over lists and tuples in any mix. -/
namespace Z
open PySem PySem.Spec PyProof.Rows L2
open Evl (Ex ex_l ex_t ex_rd)

/-- a list (true), a tuple (false) -/
def Sq (b : Bool) (K : PySem.W.Frag) (H : Hp) (a : Addr) (xs : List V) : Prop := if b then SqL K H a xs else SqT K H a xs
def Pl (b : Bool) (h : Heap) (a : Addr) (vs : Array Value) : Prop := if b then h.IsList a vs else h.IsTuple a vs
def Cu (b : Bool) (h : Heap) (it a : Addr) (i : Nat) : Prop := if b then h.IsListIter it a i else h.IsTupleIter it a i
def cuObj (b : Bool) (a : Addr) : Obj := { cls := .type (if b then "list_iterator" else "tuple_iterator"), data := .fields #[.ref a, .int 0 0] }
theorem cu_new {b : Bool} {h : Heap} {it a : Addr} (e : h.get? it = some (cuObj b a)) : Cu b h it a 0 := by
  cases b
  · exact ⟨_, e, rfl, rfl⟩
  · exact ⟨_, e, rfl, rfl⟩
theorem cu_keep {b : Bool} {h h' : Heap} {it a : Addr} {i : Nat} (c : Cu b h it a i) (k : ∀ o, h.get? it = some o → h'.get? it = some o) : Cu b h' it a i := by
  cases b
  · have c' : h.IsTupleIter it a i := c
    exact c'.at k
  · have c' : h.IsListIter it a i := c
    exact c'.at k
theorem cu_obj {b : Bool} {h : Heap} {it a : Addr} {i : Nat} (c : Cu b h it a i) : ∃ o, h.get? it = some o ∧ ∀ v, o.data ≠ .cell v := by
  cases b
  · obtain ⟨o, e, _, d⟩ := (show h.IsTupleIter it a i from c)
    exact ⟨o, e, fun v q => by rw [d] at q; cases q⟩
  · obtain ⟨o, e, _, d⟩ := (show h.IsListIter it a i from c)
    exact ⟨o, e, fun v q => by rw [d] at q; cases q⟩
theorem sq_inv {X : Cx} {pins : List (Addr × Obj)} {σ : L2.St} {H : Hp} {s : Shared} {b : Bool} {a : Addr} {xs : List V} (I : Inv X pins σ H s) (q : Sq b X.K H a xs) : ∃ its : List Value, Vals xs its ∧ Pl b s.heap a its.toArray ∧ a < s.heap.objs.size := by
  cases b
  · obtain ⟨its, r, p, _⟩ := I.tuple (show SqT X.K H a xs from q)
    have p' := p
    obtain ⟨o, e, _⟩ := p'
    exact ⟨its, r, p, Heap.lt_size e⟩
  · obtain ⟨its, r, p, _⟩ := I.list (show SqL X.K H a xs from q)
    exact ⟨its, r, p.isList, p.lt⟩
theorem sq_inj {X : Cx} {pins : List (Addr × Obj)} {σ : L2.St} {H : Hp} {s : Shared} {b : Bool} {a : Addr} {xs ys : List V} (I : Inv X pins σ H s) (q : Sq b X.K H a xs) (r : Sq b X.K H a ys) : xs = ys := by
  cases b
  · exact I.tuple_inj (show SqT X.K H a xs from q) r
  · exact I.list_inj (show SqL X.K H a xs from q) r
theorem draws {prog : Program} {w : World} {A : Around} (b : Bool) (hh : A.handled = none) (it a : Addr) (hne : a ≠ it) (items : Array Value) :
    Draws prog w A it [it, a] items.size (fun i v => items[i]? = some v) (fun i h => Cu b h it a i ∧ Pl b h a items) := by
  cases b
  · exact Draws.tuple hh it a hne items
  · exact Draws.list hh it a hne items
theorem begins (b : Bool) (a : Addr) (items : Array Value) : Begins (.ref a) (cuObj b a) fun h => Pl b h a items := by
  cases b
  · exact begins_tuple a items
  · exact begins_list a items

/-! ### zip -/
def ItzG (K : PySem.W.Frag) (b1 b2 : Bool) (a c : Addr) : L2.It :=
  ⟨fun i H => ∃ (xs ys : List V) (x y : V), Sq b1 K H a xs ∧ Sq b2 K H c ys ∧ xs[i]? = some x ∧ ys[i]? = some y,
    fun i H v H' => ∃ T x y, v = .ref T ∧ H T = none ∧ H' = upd H T (.tup [x, y]) ∧ (∀ xs, Sq b1 K H a xs → xs[i]? = some x) ∧ ∀ ys, Sq b2 K H c ys → ys[i]? = some y,
    fun i H => ∃ xs ys : List V, Sq b1 K H a xs ∧ Sq b2 K H c ys ∧ i = min xs.length ys.length⟩
structure Apart (z TI TO i1 i2 a c : Addr) : Prop where
  s : ZipSep2 z TI TO i1 i2 [i1, a] [i2, c]
  a1 : a ≠ i1
  c2 : c ≠ i2
theorem turn_zipG {P : Program} {w : World} {K : PySem.W.Frag} {elts : List Expr} {kk : Nat} {tpos : Pos} {b1 b2 : Bool} {a c z TI TO i1 i2 : Addr} (D : Apart z TI TO i1 i2 a c) :
    Turn P w K (.Tuple elts kk tpos) (ItzG K b1 b2 a c) [z, TI, TO, i1, i2] z (fun i h => IsZip h z TI TO .none ∧ IsTupOf2 h TI (.ref i1) (.ref i2) ∧ (∃ x y, IsTupOf2 h TO x y) ∧ Cu b1 h i1 a i ∧ Cu b2 h i2 c i) where
  mem := by simp
  obj := by
    rintro i h ⟨hz, hTI, ⟨x, y, hTO⟩, h1, h2⟩ q hq
    simp only [List.mem_cons, List.not_mem_nil, or_false] at hq
    rcases hq with rfl | rfl | rfl | rfl | rfl
    · exact ⟨_, hz, fun v q => nomatch q⟩
    · exact ⟨_, hTI, fun v q => nomatch q⟩
    · exact ⟨_, hTO, fun v q => nomatch q⟩
    · exact cu_obj h1
    · exact cu_obj h2
  keep := by
    rintro i h h' ⟨hz, hTI, ⟨x, y, hTO⟩, h1, h2⟩ k
    exact ⟨k z (by simp) _ hz, k TI (by simp) _ hTI, ⟨x, y, k TO (by simp) _ hTO⟩, cu_keep h1 fun o q => k i1 (by simp) o q, cu_keep h2 fun o q => k i2 (by simp) o q⟩
  item := by
    intro X hP hw hK hc i pins s σ H E I hf st hg
    subst hP hw hK
    obtain ⟨hz, hTI, ⟨x0, y0, hTO⟩, h1, h2⟩ := st
    obtain ⟨xs, ys, x, y, hqx, hqy, hx, hy⟩ := hg
    obtain ⟨its, rv, p, _⟩ := sq_inv I hqx
    obtain ⟨its2, rv2, p2, _⟩ := sq_inv I hqy
    obtain ⟨u, hu, ru⟩ := rv.get hx
    obtain ⟨u2, hu2, ru2⟩ := rv2.get hy
    have zlt : z < s.heap.objs.size := Heap.lt_size hz
    have hd : X.A.in1.handled = none := I.ok.hd hc
    have l1 : i < its.toArray.size := by have := (List.getElem?_eq_some_iff.mp hu).1; simpa using this
    have l2 : i < its2.toArray.size := by have := (List.getElem?_eq_some_iff.mp hu2).1; simpa using this
    refine wpAny_pyNext_zipD2_item D.s (draws b1 hd i1 a D.a1 its.toArray) (draws b2 hd i2 c D.c2 its2.toArray) hz hTI hTO ⟨h1, p⟩ ⟨h2, p2⟩ l1 l2 fun w1 w2 h' tk e1 e2 z' TO' st1 st2 hT hsz hk => ?_
    have ew1 : w1 = u := by
      have : its.toArray[i]? = some u := by simpa using hu
      rw [this] at e1; exact (Option.some.inj e1).symm
    have ew2 : w2 = u2 := by
      have : its2.toArray[i]? = some u2 := by simpa using hu2
      rw [this] at e2; exact (Option.some.inj e2).symm
    subst ew1; subst ew2
    refine ⟨_, rfl, wpAny_letOwnedTupleGo_zip (s := { s with heap := h', toks := tk }) z' fun h'' z'' sb => ?_⟩
    have hT2 : h''.get? s.heap.objs.size = some { cls := .type "tuple", data := .seq #[w1, w2] } := (sb.2 _ (Nat.ne_of_gt zlt)).trans hT
    have new : ObjOk X.prog X.w (upd H s.heap.objs.size (.tup [x, y])) h'' s.heap.objs.size (.tup [x, y]) :=
      ⟨by show 2 ≤ sizeLine; decide, [w1, w2], .cons ru (.cons ru2 .nil), ⟨_, hT2, rfl, _, rfl⟩⟩
    have I1 : Inv X pins σ (upd H s.heap.objs.size (.tup [x, y])) { s with heap := h'', toks := tk } := by
      refine I.turnedNew (t' := tk) (ch := [z, TI, TO, i1, i2]) (fun q o hb e => ?_) hf (Nat.le_refl _) new
      simp only [List.mem_cons, List.not_mem_nil, or_false, not_or] at hb
      exact (sb.2 q hb.1).trans (hk q o hb.1 hb.2.2.1 hb.2.2.2.1 hb.2.2.2.2 e)
    refine ⟨.ref s.heap.objs.size, _, I1, rfl, ⟨_, x, y, rfl, I.hok.fresh (Nat.le_refl _), rfl, fun l hl => by rw [sq_inj I hl hqx]; exact hx, fun l hl => by rw [sq_inj I hl hqy]; exact hy⟩, ⟨z'', ?_, ⟨w1, w2, ?_⟩, ?_, ?_⟩, fun q hq => ?_⟩
    · exact (sb.2 _ D.s.TIz).trans (hk _ _ D.s.TIz D.s.TITO D.s.TIi1 D.s.TIi2 hTI)
    · exact (sb.2 _ D.s.TOz).trans TO'
    · exact cu_keep st1.1 fun o q => (sb.2 _ D.s.zi1.symm).trans q
    · exact cu_keep st2.1 fun o q => (sb.2 _ D.s.zi2.symm).trans q
    · have hlt : q < s.heap.objs.size := by
        simp only [List.mem_cons, List.not_mem_nil, or_false] at hq
        rcases hq with rfl | rfl | rfl | rfl | rfl
        · exact zlt
        · exact Heap.lt_size hTI
        · exact Heap.lt_size hTO
        · obtain ⟨o, e, _⟩ := cu_obj h1; exact Heap.lt_size e
        · obtain ⟨o, e, _⟩ := cu_obj h2; exact Heap.lt_size e
      rw [upd_ne (Nat.ne_of_lt hlt)]
      exact (hf q hq).1
  done := by
    intro X hP hw hK hc i pins s σ H E I hf st hg
    subst hP hw hK
    obtain ⟨hz, hTI, ⟨x0, y0, hTO⟩, h1, h2⟩ := st
    obtain ⟨xs, ys, hqx, hqy, hend⟩ := hg
    obtain ⟨its, rv, p, _⟩ := sq_inv I hqx
    obtain ⟨its2, rv2, p2, _⟩ := sq_inv I hqy
    have l1 := rv.length
    have l2 := rv2.length
    have hd : X.A.in1.handled = none := I.ok.hd hc
    refine wpAny_pyNext_zipD2_end D.s (draws b1 hd i1 a D.a1 its.toArray) (draws b2 hd i2 c D.c2 its2.toArray) hz hTI hTO ⟨h1, p⟩ ⟨h2, p2⟩ (by simp; omega) (by simp; omega) (by simp; omega) fun h' tk hk => ⟨rfl, ?_⟩
    refine I.turnedL (t' := tk) (ch := [z, TI, TO, i1, i2]) (fun q o hb e => ?_) hf
    simp only [List.mem_cons, List.not_mem_nil, or_false, not_or] at hb
    exact hk q o hb.1 hb.2.2.1 hb.2.2.2.1 hb.2.2.2.2 e
  self := fun A i s Q E st h => wpAny_pyIter_zip st.1 h
def iZipG (K : PySem.W.Frag) (b1 b2 : Bool) (ta : TA) : TI := fun σ H R => ta σ H fun vs H1 => ∃ a c xs ys, vs = [.ref a, .ref c] ∧ Sq b1 K H1 a xs ∧ Sq b2 K H1 c ys ∧ R (ItzG K b1 b2 a c) H1
theorem pi_zipG {X : Cx} {b1 b2 : Bool} {e e2 : Expr} {ta : TA} {p pos tpos : Pos} {elts : List Expr} {kk : Nat} (hg : Gl X "zip") (hm : X.mg "zip" = none) (ha : PA X [e, e2] ta)
    (hs : starEach [e, e2] X.env = (false, eval e X.env) :: starEach [e2] X.env) (hpl : (backTo pos (starEach [e2] X.env)).any (·.1) = false) :
    PI X (.Tuple elts kk tpos) (.Call (.Name "zip" p) [e, e2] [] pos) (iZipG X.K b1 b2 ta) := by
  refine ⟨fun pins s σ H R I h => ?_⟩
  refine Call_ (ld_blt I hg hm PyProof.Rows.boot_zip (PyProof.Rows.callWith_type1 (thn (ha.run pos pins s σ H _ I h) fun us s1 ⟨vs, H1, I1, r1, q1⟩ => ?_) hs hpl))
  obtain ⟨a, c, xs, ys, ex, qx, qy, q⟩ := q1
  subst ex
  cases r1 with
  | cons r rr =>
    cases rr with
    | cons r' rr =>
      cases rr
      cases r
      cases r'
      obtain ⟨its, rv, p1, la⟩ := sq_inv I1 qx
      obtain ⟨its2, rv2, p2, lc⟩ := sq_inv I1 qy
      refine zip_begins2 (begins b1 a its.toArray) (begins b2 c its2.toArray) p1 p2 fun h' hz hTI hTO g1 g2 hsz hk => wpAny_pyIter_zip hz ?_
      have I2 : Inv X pins σ H1 { s1 with heap := h' } := I1.kept (t' := s1.toks) hk
      have sep := zip_sep2 (N := s1.heap.objs.size) (fp1 := [a]) (fp2 := [c]) (fun b hb => by rw [List.mem_singleton.mp hb]; exact la) (fun b hb => by rw [List.mem_singleton.mp hb]; exact lc)
      refine ⟨s1.heap.objs.size + 4, [s1.heap.objs.size + 4, s1.heap.objs.size + 2, s1.heap.objs.size + 3, s1.heap.objs.size, s1.heap.objs.size + 1], _, _, H1, rfl, I2, turn_zipG ⟨sep, Nat.ne_of_lt la, ?_⟩, ⟨hz, hTI, ⟨_, _, hTO⟩, cu_new g1, cu_new g2⟩, fun q hq => ?_, q⟩
      · exact Nat.ne_of_lt (Nat.lt_succ_of_lt lc)
      · have hle : s1.heap.objs.size ≤ q := by
          simp only [List.mem_cons, List.not_mem_nil, or_false] at hq
          rcases hq with rfl | rfl | rfl | rfl | rfl
          · exact Nat.le_add_right _ _
          · exact Nat.le_add_right _ _
          · exact Nat.le_add_right _ _
          · exact Nat.le_refl _
          · exact Nat.le_add_right _ _
        exact I1.fpOk hle (I1.hok.fresh hle)
theorem walk_zipG {K : PySem.W.Frag} {b1 b2 : Bool} {a c : Addr} {xs ys : List V} : Walk (ItzG K b1 b2 a c) (min xs.length ys.length) (fun H => Sq b1 K H a xs ∧ Sq b2 K H c ys) (YPair (fun i => xs[i]?) (fun i => ys[i]?)) where
  goes := fun i H hi hG => by
    obtain ⟨h1, h2⟩ := hG
    have l1 : i < xs.length := by omega
    have l2 : i < ys.length := by omega
    exact ⟨xs, ys, xs[i], ys[i], h1, h2, List.getElem?_eq_getElem l1, List.getElem?_eq_getElem l2⟩
  stops := fun H hG => ⟨xs, ys, hG.1, hG.2, rfl⟩
  yields := fun i H v H' hi hG y => by
    obtain ⟨T, x, y', e1, e2, e3, f1, f2⟩ := y
    exact ⟨T, x, y', e1, e2, e3, f1 xs hG.1, f2 ys hG.2⟩

/-! ### enumerate -/
def ItEG (K : PySem.W.Frag) (b : Bool) (a : Addr) : L2.It :=
  ⟨fun i H => ∃ (xs : List V) (x : V), Sq b K H a xs ∧ xs[i]? = some x, fun i H v H' => ∃ T x, v = .ref T ∧ H T = none ∧ H' = upd H T (.tup [.int (i : Nat), x]) ∧ ∀ xs, Sq b K H a xs → xs[i]? = some x, fun i H => ∃ xs : List V, Sq b K H a xs ∧ i = xs.length⟩
theorem turn_enumG {P : Program} {w : World} {K : PySem.W.Frag} {elts : List Expr} {kk : Nat} {tpos : Pos} {b : Bool} {a e it : Addr} (hne : e ≠ it) (hea : e ≠ a) (hai : a ≠ it) :
    Turn P w K (.Tuple elts kk tpos) (ItEG K b a) [e, it] e (fun i h => (∃ old, IsEnum h e it ((i : Nat) : Int) old) ∧ Cu b h it a i) where
  mem := by simp
  obj := by
    rintro i h ⟨⟨old, he⟩, hc⟩ q hq
    simp only [List.mem_cons, List.not_mem_nil, or_false] at hq
    rcases hq with rfl | rfl
    · exact ⟨_, he, fun v q => nomatch q⟩
    · exact cu_obj hc
  keep := fun i h h' st k => let ⟨⟨old, he⟩, hi⟩ := st; ⟨⟨old, k e (by simp) _ he⟩, cu_keep hi fun o q => k it (by simp) o q⟩
  item := by
    intro X hP hw hK hc i pins s σ H E I hf st hg
    subst hP hw hK
    obtain ⟨⟨old, he⟩, hit⟩ := st
    obtain ⟨xs, x, hq, hx⟩ := hg
    obtain ⟨its, rv, p, _⟩ := sq_inv I hq
    obtain ⟨u, hu, ru⟩ := rv.get hx
    have elt : e < s.heap.objs.size := Heap.lt_size he
    have ilt : it < s.heap.objs.size := by obtain ⟨o, q, _⟩ := cu_obj hit; exact Heap.lt_size q
    have hd : X.A.in1.handled = none := I.ok.hd hc
    have l1 : i < its.toArray.size := by have := (List.getElem?_eq_some_iff.mp hu).1; simpa using this
    refine wpAny_pyNext_enum_itemD (draws b hd it a hai its.toArray) he ⟨hit, p⟩ l1 hne (by simp [hne, hea]) fun w1 h' tk e1 ho st' hT hsz hk => ?_
    have ew1 : w1 = u := by
      have : its.toArray[i]? = some u := by simpa using hu
      rw [this] at e1; exact (Option.some.inj e1).symm
    subst ew1
    refine ⟨_, rfl, wpAny_letOwnedTupleGo_enum (s := { s with heap := h', toks := tk + 1 }) ho fun h'' he' sb => ?_⟩
    have hT2 : h''.get? s.heap.objs.size = some { cls := .type "tuple", data := .seq #[.int i tk, w1] } := (sb.2 _ (Nat.ne_of_gt elt)).trans hT
    have new : ObjOk X.prog X.w (upd H s.heap.objs.size (.tup [.int (i : Nat), x])) h'' s.heap.objs.size (.tup [.int (i : Nat), x]) :=
      ⟨by show 2 ≤ sizeLine; decide, [.int i tk, w1], .cons ⟨_, rfl⟩ (.cons ru .nil), ⟨_, hT2, rfl, _, rfl⟩⟩
    have I1 : Inv X pins σ (upd H s.heap.objs.size (.tup [.int (i : Nat), x])) { s with heap := h'', toks := tk + 1 } := by
      refine I.turnedNew (ch := [e, it]) (fun q o hb z => ?_) hf (Nat.le_refl _) new
      simp only [List.mem_cons, List.not_mem_nil, or_false, not_or] at hb
      exact (sb.2 q hb.1).trans (hk q o hb.1 hb.2 z)
    refine ⟨.ref s.heap.objs.size, _, I1, rfl, ⟨_, x, rfl, I.hok.fresh (Nat.le_refl _), rfl, fun ys hy => by rw [sq_inj I hy hq]; exact hx⟩, ⟨⟨w1, ?_⟩, cu_keep st'.1 fun o q => (sb.2 it (Ne.symm hne)).trans q⟩, fun q hq => ?_⟩
    · have e1 : ((i + 1 : Nat) : Int) = (i : Int) + 1 := by omega
      rw [e1]; exact he'
    · have hlt : q < s.heap.objs.size := by
        simp only [List.mem_cons, List.not_mem_nil, or_false] at hq
        rcases hq with rfl | rfl
        · exact elt
        · exact ilt
      rw [upd_ne (Nat.ne_of_lt hlt)]
      exact (hf q hq).1
  done := by
    intro X hP hw hK hc i pins s σ H E I hf st hg
    subst hP hw hK
    obtain ⟨⟨old, he⟩, hit⟩ := st
    obtain ⟨xs, hq, hx⟩ := hg
    obtain ⟨its, rv, p, _⟩ := sq_inv I hq
    have hd : X.A.in1.handled = none := I.ok.hd hc
    have hl := rv.length
    have hs : i = its.toArray.size := by simp; omega
    subst hs
    refine wpAny_pyNext_enum_endD (draws b hd it a hai its.toArray) he ⟨hit, p⟩ fun h' eb => ⟨rfl, ?_⟩
    obtain ⟨f0, f1, f2, f3, f4, f5⟩ := hf it (by simp)
    exact I.turned (t' := s.toks) (fun q o hb e => eb q o hb e) f0 f1 f3 f4 f5
  self := fun A i s Q E st h => let ⟨⟨_, he⟩, _⟩ := st; wpAny_pyIter_enum he h
theorem meets_enum1 {v : Value} {o : Obj} {G : Heap → Prop} (B : Begins v o G) :
    Meets (Builtin.«enumerate.__new__» ⟨[.type "enumerate", v], []⟩) (fun _ R s => G s.heap ∧
      R (.ok (.ret (.ref (s.heap.push o).objs.size))) { s with heap := (s.heap.push o).push { cls := .type "enumerate", data := .fields #[.none, .bool false, .ref s.heap.objs.size, rawInt 0, .none, .none] } }) :=
  .of_wp fun prog w A R s h => by
    obtain ⟨hp, g, d, tk, os⟩ := s
    obtain ⟨h1, h⟩ := h
    have hsub := sub_enumerate
    have bq : ∀ {A' : Around} {E : Value → Shared → Prop} {Q : Value → Shared → Prop}, Q (.ref hp.objs.size) ⟨hp.push o, g, d, tk, os⟩ → wpAny (model prog w) A' (pyIter v) Q E ⟨hp, g, d, tk, os⟩ := fun q => B.iter prog w _ _ ⟨hp, g, d, tk, os⟩ _ h1 q
    wp_walk using bq
    refine wpAny_stack_any fun st => wpAny_pure ?_
    split
    · rename_i c _ _ _ _ _
      cases (c == Value.type "enumerate")
      · wp_walk using bq
        exact ⟨_, rfl, h⟩
      · wp_walk using bq
        exact ⟨_, rfl, h⟩
    · wp_walk using bq
      exact ⟨_, rfl, h⟩
theorem enum1_begins {prog : Program} {w : World} {A : Around} {E : Value → Shared → Prop} {s : Shared} {v : Value} {o : Obj} {G : Heap → Prop} {Q : Value → Shared → Prop} (B : Begins v o G) (h1 : G s.heap)
    (h : ∀ h', IsEnum h' (s.heap.objs.size + 1) s.heap.objs.size 0 .none → h'.get? s.heap.objs.size = some o → (∀ b o, s.heap.get? b = some o → h'.get? b = some o) → Q (.ref (s.heap.objs.size + 1)) { s with heap := h' }) :
    wpAny (model prog w) A (call (.type "enumerate") [v]) Q E s := by
  refine callType_new F.called_enumerate (by decide) (F.typeCall_enumerate_1 _) (F.newCall_enumerate_1 _) (fun obj => F.args_object_init_2 obj _) F.entry_enumerate_new (meets_enum1 B) ⟨h1, ?_⟩
  have hz : (s.heap.push o).objs.size = s.heap.objs.size + 1 := Heap.size_push ..
  show _ ∧ _
  rw [hz]
  generalize hen : ({ cls := .type "enumerate", data := .fields #[.none, .bool false, .ref s.heap.objs.size, rawInt 0, .none, .none] } : Obj) = en
  have he : ((s.heap.push o).push en).get? (s.heap.objs.size + 1) = some en := by
    have := Heap.get?_push_size (s.heap.push o) (o := en) (by subst hen; rfl)
    rw [hz] at this; exact this
  exact ⟨⟨_, he, by subst hen; rfl⟩, h _ (by subst hen; exact he) (Heap.get?_push_of_some _ (Heap.get?_push_size _ B.free)) fun b o x => Heap.get?_push_of_some _ (Heap.get?_push_of_some _ x)⟩
def iEnumG (K : PySem.W.Frag) (b : Bool) (ta : TA) : TI := fun σ H R => ta σ H fun vs H1 => ∃ a xs, vs = [.ref a] ∧ Sq b K H1 a xs ∧ R (ItEG K b a) H1
theorem pi_enumG {X : Cx} {b : Bool} {e : Expr} {ta : TA} {p pos tpos : Pos} {elts : List Expr} {kk : Nat} (hg : Gl X "enumerate") (hm : X.mg "enumerate" = none) (ha : PA X [e] ta) (hs : starEach [e] X.env = [(false, eval e X.env)]) :
    PI X (.Tuple elts kk tpos) (.Call (.Name "enumerate" p) [e] [] pos) (iEnumG X.K b ta) := by
  refine ⟨fun pins s σ H R I h => ?_⟩
  refine Call_ (ld_blt I hg hm boot_enumerate (PyProof.Rows.callWith_type1 (thn (ha.run pos pins s σ H _ I h) fun us s1 ⟨vs, H1, I1, r1, q1⟩ => ?_) hs rfl))
  obtain ⟨a, xs, ex, hq, q⟩ := q1
  subst ex
  cases r1 with
  | cons r rr =>
    cases rr
    cases r
    obtain ⟨its, rv, p1, la⟩ := sq_inv I1 hq
    refine enum1_begins (begins b a its.toArray) p1 fun h' he g1 hk => wpAny_pyIter_enum he ?_
    have I2 : Inv X pins σ H1 { s1 with heap := h' } := I1.kept (t' := s1.toks) hk
    refine ⟨s1.heap.objs.size + 1, [s1.heap.objs.size + 1, s1.heap.objs.size], _, _, H1, rfl, I2, turn_enumG (Nat.succ_ne_self _) ?_ (Nat.ne_of_lt la), ⟨⟨.none, he⟩, cu_new g1⟩, fun q hq => ?_, q⟩
    · exact Nat.ne_of_gt (Nat.lt_succ_of_lt la)
    · have hle : s1.heap.objs.size ≤ q := by
        simp only [List.mem_cons, List.not_mem_nil, or_false] at hq
        rcases hq with rfl | rfl
        · exact Nat.le_add_right _ _
        · exact Nat.le_refl _
      exact I1.fpOk hle (I1.hok.fresh hle)
theorem walk_enumG {K : PySem.W.Frag} {b : Bool} {a : Addr} {xs : List V} : Walk (ItEG K b a) xs.length (fun H => Sq b K H a xs) (YPair (fun i => some (.int (i : Nat))) (fun i => xs[i]?)) where
  goes := fun i H hi hG => ⟨xs, xs[i], hG, List.getElem?_eq_getElem hi⟩
  stops := fun H hG => ⟨xs, hG, rfl⟩
  yields := fun i H v H' hi hG y => by
    obtain ⟨T, x, e1, e2, e3, f1⟩ := y
    exact ⟨T, _, x, e1, e2, e3, rfl, f1 xs hG⟩

/-- a list -/
def D.isL : D → Bool
  | .lst _ _ => true
  | _ => false
section
variable {L : Law} {N : List Str} {sc : Sc} {k : Nat}
theorem frz_sq {T : Tab} {Hf H : Hp} {d : D} {v : V} {ds : List D} (r : rep T Hf H (frz d) v []) (e : seqD (frz d) = some ds) : ∃ b a xs, v = .ref a ∧ Sq b T.K Hf a xs ∧ repS T Hf H ds xs [] ∧ b = d.isL := by
  obtain ⟨a, xs, rfl, hq, r3⟩ := frz_seq r e
  rcases hq with ⟨⟨m, es, rfl⟩, q⟩ | ⟨⟨es, rfl⟩, q⟩
  · exact ⟨true, a, xs, rfl, q, r3, rfl⟩
  · exact ⟨false, a, xs, rfl, q, r3, rfl⟩
theorem sq_ex {b : Bool} {K : PySem.W.Frag} {H H' : Hp} {a : Addr} {xs : List V} (e : Ex H H') (h : Sq b K H a xs) : Sq b K H' a xs := by
  cases b
  · exact ex_t e h
  · exact ex_l e h
theorem semI_enum {elts : List Expr} {kk : Nat} {tpos : Pos} {e : Expr} {e' : E} {p pos : Pos} (hg : sc.names.lookup ("enumerate" : Str) = some .globalImplicit) (hm : L.mg "enumerate" = none) (hs : ∀ env, starEach [e] env = [(false, eval e env)]) (he : SemE L N sc k e e') :
    SemI L N sc k (.Tuple elts kk tpos) (.Call (.Name "enumerate" p) [e] [] pos) (.enum e') := by
  intro X c ρ items h Hf0 H0 Hf H σ S
  simp only [evI] at h
  split at h
  · rename_i d hd
    cases hds : seqD (frz d) with
    | none => rw [hds] at h; cases h
    | some ds =>
      rw [hds] at h
      cases h
      refine ⟨_, pi_enumG (b := d.isL) (c.gl hg) (by rw [c.hmg]; exact hm) (pa_cons (pe_ e) pa_nil (by rw [hs]; rfl)) (hs _), fun R k2 =>
        he X c ρ _ true hd Hf0 H0 Hf H σ S _ fun v H1 Hf1 F1 g1 r1 n1 => ?_⟩
      obtain ⟨Hf2, g2, r2, e2⟩ := frozen g1 r1 (n1 rfl)
      obtain ⟨b, a, xs, rfl, q, r3, rfl⟩ := frz_sq r2 hds
      refine ⟨a, xs, rfl, c.hK ▸ sq_ex g2.s q, c.hK ▸ k2 _ H1 Hf2 ⟨g2, _, _, by rw [enumD_len, ← repS_len r3]; exact walk_enumG (xs := xs), fun H2 e => sq_ex e q, fun i d H3 Hf3 x H4 hd e1 e2 y => ?_⟩⟩
      obtain ⟨t, x1, x2, rfl, ht, rfl, h1, h2⟩ := y
      cases h1
      rw [enumD_get] at hd
      cases hi : ds[i]? with
      | none => rw [hi] at hd; cases hd
      | some d0 =>
        rw [hi] at hd
        have hd' : D.tup [.int (0 + (i : Int)), d0] = d := by simpa using hd
        subst hd'
        have e0 : (0 : Int) + (i : Int) = (i : Nat) := by omega
        rw [e0]
        have r4 := repS_at (repS_mono (H' := H3) e1 _ _ _ (fun _ hb => by cases hb) r3) hi h2
        obtain ⟨g5, r5⟩ := pair_new e2 ht (T := L.T) (d := .int (i : Nat)) ⟨rfl, rfl⟩ r4
        exact ⟨_, g5, r5⟩
  · cases h
theorem semI_zip {elts : List Expr} {kk : Nat} {tpos : Pos} {a b : Expr} {a' b' : E} {p pos : Pos} (hg : sc.names.lookup ("zip" : Str) = some .globalImplicit) (hm : L.mg "zip" = none) (hs : ∀ env, starEach [a, b] env = (false, eval a env) :: starEach [b] env) (hs2 : ∀ env, starEach [b] env = [(false, eval b env)])
    (hpl : ∀ pos env, (backTo pos (starEach [b] env)).any (·.1) = false) (ha : SemE L N sc k a a') (hb : SemE L N sc k b b') : SemI L N sc k (.Tuple elts kk tpos) (.Call (.Name "zip" p) [a, b] [] pos) (.zip a' b') := by
  intro X c ρ items h Hf0 H0 Hf H σ S
  simp only [evI] at h
  split at h
  · rename_i d1 d2 h1 h2
    split at h
    · rename_i ds es e1 e2
      cases h
      refine ⟨_, pi_zipG (b1 := d1.isL) (b2 := d2.isL) (c.gl hg) (by rw [c.hmg]; exact hm) (pa_cons (pe_ a) (pa_cons (pe_ b) pa_nil (by rw [hs2]; rfl)) (hs _)) (hs _) (hpl _ _), fun R k2 =>
        ha X c ρ _ true h1 Hf0 H0 Hf H σ S _ fun v H1 Hf1 F1 g1 r1 n1 => hb X c ρ _ true h2 Hf0 H0 Hf1 H1 σ (S.grow g1) _ fun u H2 Hf2 F2 g2 r2 n2 => ?_⟩
      have r1' := rep_mono g2.f _ _ _ (fun a _ o q => g2.e a o q) r1
      have n1' := (n1 rfl).grow g2 (rep_dom _ _ _ r1)
      have nn : New H Hf2 (F1 ++ F2) := New.append (Hf := Hf) (Hf1 := Hf1) g1.e n1' (rep_dom _ _ _ r1) (n2 rfl)
      have r0 : repS L.T Hf2 H2 [d1, d2] [v, u] (F1 ++ F2) := ⟨v, [u], F1, F2, rfl, rfl, r1', u, [], F2, [], rfl, by rw [List.append_nil], r2, rfl, rfl⟩
      have g3 := plus_gr (g1.trans g2) nn
      have r3 : repS L.T (plus Hf2 H2 (F1 ++ F2)) H2 (frzS [d1, d2]) [v, u] [] := repS_frz (plus_ex nn.f) _ _ _ (fun a ha o q => plus_in a ha o q) r0
      obtain ⟨v', w', G1, G2, ev, rv, rw'⟩ := repS_2 r3
      cases ev
      have z1 := fz_nil rv (frz_fz _)
      have z2 := fz_nil rw' (frz_fz _)
      subst z1; subst z2
      obtain ⟨b1, a1, xs, rfl, hq1, q1, rfl⟩ := frz_sq rv e1
      obtain ⟨b2, a2, ys, rfl, hq2, q2, rfl⟩ := frz_sq rw' e2
      have ok : ItOk L.T Hf H (zipD ds es) (ItzG L.T.K d1.isL d2.isL a1 a2) H2 (plus Hf2 H2 (F1 ++ F2)) := by
        refine ⟨g3, _, _, by rw [zipD_len, ← repS_len q1, ← repS_len q2]; exact walk_zipG (xs := xs) (ys := ys), fun H4 e => And.intro (sq_ex e hq1) (sq_ex e hq2), fun i d H3 Hf3 x H4 hd e3 e4 y => ?_⟩
        obtain ⟨t, x1, x2, rfl, ht, rfl, h3, h4⟩ := y
        have l1 := (List.getElem?_eq_some_iff.mp h3).1
        have l2 := (List.getElem?_eq_some_iff.mp h4).1
        rw [repS_len q1] at l1
        rw [repS_len q2] at l2
        have dd1 : ds[i]? = some ds[i] := List.getElem?_eq_getElem l1
        have dd2 : es[i]? = some es[i] := List.getElem?_eq_getElem l2
        rw [zipD_get ds es i _ _ dd1 dd2] at hd
        cases hd
        obtain ⟨g5, r5⟩ := pair_new e4 ht (T := L.T) (repS_at (repS_mono (H' := H3) e3 _ _ _ (fun _ hb => by cases hb) q1) dd1 h3) (repS_at (repS_mono (H' := H3) e3 _ _ _ (fun _ hb => by cases hb) q2) dd2 h4)
        exact ⟨_, g5, r5⟩
      exact ⟨a1, a2, xs, ys, rfl, c.hK ▸ sq_ex g3.s hq1, c.hK ▸ sq_ex g3.s hq2, by rw [c.hK]; exact k2 _ H2 _ ok⟩
    · cases h
  · cases h
end
end Z

/-! Z16: isinstance, max with a default, bit_length, range downward. -/
namespace Z
open PySem PySem.Spec PyProof.Rows L2
open Evl (Ex ex_l ex_t ex_rd)

def kdN : Kd → String
  | .kn => "NoneType" | .kb => "bool" | .ki => "int" | .ks => "str" | .kl => "list" | .kt => "tuple"
def isN : Is → String
  | .int => "int" | .bool => "bool" | .tuple => "tuple" | .list => "list" | .str => "str" | .cls _ => ""
theorem isK_kit {K : PySem.W.Frag} {q : Kd} {k : Is} {b : Bool} (h : isK q k = some b) : PySem.W.kitOne K (.type (kdN q)) (.type (isN k)) = some b := by
  refine kit_ty ?_
  cases k with
  | cls c => cases q <;> cases h
  | _ => cases q <;> cases h <;> decide +kernel
theorem rep_ty {T : Tab} {Hf H : Hp} {d : D} {v : V} {F : List Addr} {q : Kd} (e : Ex Hf H) (r : rep T Hf H d v F) (h : kdD d = some q) : TyX T.K H v (.type (kdN q)) := by
  cases d with
  | non => cases h; rw [r.1]; exact .base .non
  | bl b => cases h; rw [r.1]; exact .base (.bl _)
  | int i => cases h; rw [r.1]; exact .base (.int _)
  | str x => cases h; rw [r.1]; exact .base (.str _)
  | lst m ds =>
    cases h
    obtain ⟨a, xs, G, rfl, q, _⟩ := rep_lst e r
    rcases q with (q | ⟨o, q⟩) | ⟨o, its, n, hk, hc, _⟩
    · exact .base (.lst q)
    · exact .base (.frz q)
    · exact .kList hk hc
  | tup ds =>
    cases h
    obtain ⟨a, xs, rfl, q, _⟩ := rep_tup e r
    rcases q with (q | ⟨o, q⟩) | ⟨o, its, n, hk, hc, _⟩
    · exact .base (.tup q)
    · exact .fTuple q
    · exact .kTuple hk hc
  | obj m c ks ds => cases h
/-- the names of types -/
theorem sem_isi {L : Law} {N : List Str} {sc : Sc} {k : Nat} {a : Expr} {a' : E} {ty : Is} {x : Str} {p0 p1 pos : Pos} (hg : sc.names.lookup ("isinstance" : Str) = some .globalImplicit) (hm : L.mg "isinstance" = none)
    (hg1 : sc.names.lookup x = some .globalImplicit) (hm1 : L.mg x = none) (hv1 : bootBuiltins x = some (.type (isN ty))) (hn1 : x ≠ "__name__") (hd1 : (x == ("__debug__" : Str)) = false) (hty : ∀ c, ty ≠ .cls c)
    (hs : ∀ env, starEach [a, .Name x p1] env = (false, eval a env) :: starEach [.Name x p1] env) (hpl : ∀ pos env, (backTo pos (starEach [.Name x p1] env)).any (·.1) = false)
    (ha : SemE L N sc k a a') : SemE L N sc k (.Call (.Name "isinstance" p0) [a, .Name x p1] [] pos) (.isi a' ty) := by
  intro X c ρ d fr h Hf0 H0 Hf H σ S Q p
  simp only [ev] at h
  split at h
  · rename_i y f1 e1
    cases hd : isiD y ty with
    | none => rw [hd] at h; cases h
    | some b =>
      rw [hd] at h
      cases h
      obtain ⟨q, hq, hb⟩ : ∃ q, kdD y = some q ∧ isK q ty = some b := by
        unfold isiD at hd
        split at hd
        · exact absurd rfl (hty _)
        · cases hd
        · split at hd
          · rename_i q hq; exact ⟨q, hq, hd⟩
          · cases hd
      refine by_pe (pe_callB call_isi (c.gl hg) (by rw [c.hmg]; exact hm) (by decide +kernel) (pa_cons (pe_ a) (pa_cons (pe_bltn (v := .ty (isN ty)) (c.gl hg1) (by rw [c.hmg]; exact hm1) hv1 rfl hn1 hd1) pa_nil) (hs _)) (by decide) (by decide) (hs _) (hpl _ _))
        (ha X c ρ _ _ e1 Hf0 H0 Hf H σ S _ fun v H1 Hf1 F1 g1 r1 n1 => ?_)
      exact ⟨v, .ty (isN ty), .type (kdN q), .type (isN ty), b, rfl, .ty _, c.hK ▸ rep_ty g1.s r1 hq, isK_kit hb, p.flat g1 rfl⟩
  · cases h
theorem sem_isiC {L : Law} {N : List Str} {sc : Sc} {k : Nat} {a : Expr} {a' : E} {cc : Nat} {x : Str} {p0 p1 pos : Pos} (IC : C8.InsC L.T.K (L.T.cl cc)) (hg : sc.names.lookup ("isinstance" : Str) = some .globalImplicit) (hm : L.mg "isinstance" = none)
    (hg1 : sc.names.lookup x = some .globalImplicit) (hm1 : L.mg x = some (.ref (L.T.cl cc))) (hd1 : (x == ("__debug__" : Str)) = false)
    (hs : ∀ env, starEach [a, .Name x p1] env = (false, eval a env) :: starEach [.Name x p1] env) (hpl : ∀ pos env, (backTo pos (starEach [.Name x p1] env)).any (·.1) = false)
    (ha : SemE L N sc k a a') : SemE L N sc k (.Call (.Name "isinstance" p0) [a, .Name x p1] [] pos) (.isi a' (.cls cc)) := by
  intro X c ρ d fr h Hf0 H0 Hf H σ S Q p
  simp only [ev] at h
  split at h
  · rename_i y f1 e1
    cases hd : isiD y (.cls cc) with
    | none => rw [hd] at h; cases h
    | some b =>
      rw [hd] at h
      cases h
      obtain ⟨m, ks, ds, rfl, rfl⟩ : ∃ m ks ds, y = .obj m cc ks ds ∧ b = true := by
        cases y with
        | obj m c1 ks ds =>
          have hd' : (if c1 = cc then some true else none) = some b := hd
          by_cases hcc : c1 = cc
          · rw [if_pos hcc] at hd'; cases hd'; subst hcc; exact ⟨_, _, _, rfl, rfl⟩
          · rw [if_neg hcc] at hd'; cases hd'
        | _ => cases hd
      refine by_pe (pe_callB call_isi (c.gl hg) (by rw [c.hmg]; exact hm) (by decide +kernel) (pa_cons (pe_ a) (pa_cons (pe_glob (v := .ref (L.T.cl cc)) (c.gl hg1) (by rw [c.hmg]; exact hm1) rfl hd1) pa_nil) (hs _)) (by decide) (by decide) (hs _) (hpl _ _))
        (ha X c ρ _ _ e1 Hf0 H0 Hf H σ S _ fun v H1 Hf1 F1 g1 r1 n1 => ?_)
      obtain ⟨b, dx, fs, rfl, hb⟩ : ∃ b dx fs, v = .ref b ∧ H1 b = some (.ins (L.T.cl cc) dx fs) := by
        cases m with
        | some _ => obtain ⟨b, dx, fs, e, _, q, _⟩ := r1; exact ⟨b, dx, fs, e, q.2⟩
        | none => obtain ⟨b, dx, fs, e, _, q, _⟩ := r1; exact ⟨b, dx, fs, e, g1.s _ _ q⟩
      rw [← c.hK] at IC
      exact ⟨.ref b, .ref (L.T.cl cc), .ref (L.T.cl cc), .ref (L.T.cl cc), true, rfl, .own _, .base (.ins hb IC.cl IC.ha IC.hn IC.htk IC.hm), IC.me, p.flat g1 rfl⟩
  · cases h

/-! ### max(e, default=None) -/
theorem reads_ints {h : Heap} : ∀ {is : List Int} {us : List Value}, Vals (is.map V.int) us → ReadsAll h us (is.map PyData.int) []
  | [], _, .nil => .nil
  | i :: r, _, .cons q t => by
    obtain ⟨tk, rfl⟩ := q
    exact .cons (as := []) (.int i tk) (reads_ints t)
theorem depth_ints : ∀ is : List Int, PyData.depthAll (is.map PyData.int) ≤ 1
  | [] => by show PyData.depthAll [] ≤ 1; decide
  | i :: r => by
    show PyData.depthAll (PyData.int i :: r.map PyData.int) ≤ 1
    unfold PyData.depthAll
    have := depth_ints r
    have e : PyData.depth (.int i) ≤ 1 := by unfold PyData.depth; decide
    omega
theorem foldl_max : ∀ (r : List Int) (i : Int), r.foldl max i ∈ i :: r ∧ ∀ y ∈ i :: r, y ≤ r.foldl max i
  | [], i => ⟨by simp, fun y hy => by cases List.mem_singleton.mp hy; exact Int.le_refl _⟩
  | j :: r, i => by
    obtain ⟨h1, h2⟩ := foldl_max r (max i j)
    rw [List.foldl_cons]
    refine ⟨?_, fun y hy => ?_⟩
    · rcases List.mem_cons.mp h1 with e | e
      · rw [e]
        by_cases c : i ≤ j
        · rw [Int.max_eq_right c]; simp
        · rw [Int.max_eq_left (by omega)]; simp
      · exact List.mem_cons_of_mem _ (List.mem_cons_of_mem _ e)
    · have hm := h2 (max i j) List.mem_cons_self
      rcases List.mem_cons.mp hy with e | e
      · subst e; omega
      · rcases List.mem_cons.mp e with e | e
        · subst e; omega
        · exact h2 y (List.mem_cons_of_mem _ e)
theorem maxI_foldl (i : Int) (r : List Int) : maxI (i :: r) = some (r.foldl max i) := by
  cases h : maxI (i :: r) with
  | none => exact absurd (maxI_none h) (by simp)
  | some m =>
    obtain ⟨h1, h2⟩ := maxI_spec h
    obtain ⟨h3, h4⟩ := foldl_max r i
    have := h4 m h1
    have := h2 _ h3
    congr 1
    omega
section
variable {L : Law} {N : List Str} {sc : Sc} {k : Nat}
theorem sem_maxN {e : Expr} {e' : E} {j : Nat} {p0 p1 p2 pos : Pos} (hg : sc.names.lookup ("max" : Str) = some .globalImplicit) (hm : L.mg "max" = none) (hs : ∀ env, starEach [e] env = [(false, eval e env)]) (he : SemE L N sc k e e') (hh : sc.hot = false := by rfl) :
    SemE L N sc k (.Call (.Name "max" p0) [e] [⟨some "default", .Constant .none j p1, p2⟩] pos) (.blt .maxN (.cons e' .nil)) := by
  intro X c ρ d fr h Hf0 H0 Hf H σ S Q p
  simp only [ev, evs] at h
  cases hv : ev L.G e' ρ with
  | none => rw [hv] at h; cases h
  | some q =>
    obtain ⟨y, f⟩ := q
    rw [hv] at h
    have h' : (maxND y).map (·, true) = some (d, fr) := h
    cases hy : maxND y with
    | none => rw [hy] at h'; cases h'
    | some z =>
      rw [hy] at h'
      cases h'
      have hy' : ((lstI y).map fun is => match maxI is with | some i => D.int i | none => D.non) = some d := hy
      cases hl : lstI y with
      | none => rw [hl] at hy'; cases hy'
      | some is =>
        rw [hl] at hy'
        intro pins s I
        have te := he X c ρ _ _ hv Hf0 H0 Hf H σ S (fun v H1 => ∃ Hf1 F1, Gr Hf H Hf1 H1 ∧ rep L.T Hf1 H1 y v F1) fun v H1 Hf1 F1 g1 r1 _ => ⟨Hf1, F1, g1, r1⟩
        have ta : tA X [e] σ H fun vs H1 => ∃ v, vs = [v] ∧ ∃ Hf1 F1, Gr Hf H Hf1 H1 ∧ rep L.T Hf1 H1 y v F1 := by_pa (pa_cons (pe_ e) pa_nil (by rw [hs]; rfl)) (tE_mono te fun v H1 q => ⟨v, rfl, q⟩)
        refine wpAny_Call_Name_kw (ld_blt I (c.gl hg) (by rw [c.hmg]; exact hm) boot_max ?_)
        refine callWith_kw (thn (ta pos pins s I) fun us s1 ⟨vs, H1, I1, r1, v, ev, Hf1, F1, g1, rr⟩ => ?_) (by rw [hs]; rfl) (by rw [hs]; rfl)
        subst ev
        cases r1 with
        | cons rv rn =>
          cases rn
          refine kws_cons (thn ((pe_non (X := X)).run pins s1 σ H1 (fun v H2 => v = .non ∧ H2 = H1) I1 ⟨rfl, rfl⟩) fun u2 s2 ⟨v2, H2, I2, r2, e2, e3⟩ => kws_nil ?_)
          subst e2; subst e3
          cases r2
          obtain ⟨a, rfl, q⟩ := lstI_inv g1.s rr hl
          cases rv
          obtain ⟨its, rl, pl, _⟩ := I2.list (c.hK ▸ q)
          have hun := c.room.un
          have hdp := depth_ints is
          refine PySem.W.max_list_default (I2.ok.hd (c.calm hh)) pl.isList (xs := is.map PyData.int) (as := []) (by simpa using reads_ints rl) ⟨?_, ?_⟩ (by omega) (fun h0 h' tk hk => ?_) fun y0 ys i v h' tk bs hxs hi hr hk => ?_
          · intro x hx y hy
            obtain ⟨i, _, rfl⟩ := List.mem_map.mp hx
            obtain ⟨j, _, rfl⟩ := List.mem_map.mp hy
            rfl
          · intro x hx
            obtain ⟨i, _, rfl⟩ := List.mem_map.mp hx
            exact fun z => nomatch z
          · have : is = [] := by simpa using h0
            subst this
            cases hy'
            exact ⟨.non, H2, I2.kept hk, rfl, p.flat g1 rfl⟩
          · cases is with
            | nil => simp at hxs
            | cons n ns =>
              rw [List.map_cons] at hxs
              injection hxs with hx1 hx2
              subst hx1; subst hx2
              rw [PySem.W.maxD_ints] at hr
              cases hr
              simp only [Option.map_some, maxI_foldl] at hy'
              cases hy'
              exact ⟨.int _, H2, I2.kept hk, ⟨_, rfl⟩, p.flat g1 rfl⟩
theorem sem_bits {o : Expr} {o' : E} {apos pos : Pos} (hb : ∀ env, attributeBase o "bit_length" env (eval o env) = eval o env) (hl : (apos.endLine == pos.line) = true) (ho : SemE L N sc k o o') : SemE L N sc k (.Call (.Attribute o "bit_length" apos) [] [] pos) (.blt .bitlen (.cons o' .nil)) := by
  intro X c ρ d fr h Hf0 H0 Hf H σ S Q p
  simp only [ev, evs] at h
  cases hv : ev L.G o' ρ with
  | none => rw [hv] at h; cases h
  | some q =>
    obtain ⟨y, f⟩ := q
    rw [hv] at h
    have h' : (bitlenD y).map (·, true) = some (d, fr) := h
    cases y with
    | int i =>
      cases h'
      exact by_pe (pe_bits (pe_ o) (hb _) hl) (ho X c ρ _ _ hv Hf0 H0 Hf H σ S _ fun v H1 Hf1 F1 g1 r1 _ => ⟨i, r1.1, p.flat g1 rfl⟩)
    | _ => cases h'
theorem semI_down {tg a b e : Expr} {a' b' e' : E} {p pos : Pos} (hg : sc.names.lookup ("range" : Str) = some .globalImplicit) (hm : L.mg "range" = none) (hs : ∀ env, starEach [a, b, e] env = (false, eval a env) :: starEach [b, e] env) (hs2 : ∀ env, starEach [b, e] env = (false, eval b env) :: starEach [e] env) (hs3 : ∀ env, starEach [e] env = (false, eval e env) :: starEach [] env)
    (hpl : ∀ pos env, (backTo pos (starEach [b, e] env)).any (·.1) = false) (ha : SemE L N sc k a a') (hb : SemE L N sc k b b') (he : SemE L N sc k e e') : SemI L N sc k tg (.Call (.Name "range" p) [a, b, e] [] pos) (.down a' b' e') := by
  intro X c ρ items h Hf0 H0 Hf H σ S
  simp only [evI] at h
  split at h
  · rename_i i f1 j f2 l f3 h1 h2 h3
    split at h
    · rename_i ho
      cases h
      rw [Bool.and_eq_true, decide_eq_true_eq] at ho
      obtain ⟨ho, rfl⟩ := ho
      obtain ⟨o1, o2, o3, o4⟩ := rngOk_c ho
      refine ⟨_, pi_range3 (c.gl hg) (by rw [c.hmg]; exact hm) (pa_cons (pe_ a) (pa_cons (pe_ b) (pa_cons (pe_ e) pa_nil (hs3 _)) (hs2 _)) (hs _)) (hs _) (hpl _ _), fun R k2 =>
        ha X c ρ _ f1 h1 Hf0 H0 Hf H σ S _ fun v1 H1 Hf1 F1 g1 r1 _ => hb X c ρ _ f2 h2 Hf0 H0 Hf1 H1 σ (S.grow g1) _ fun v2 H2 Hf2 F2 g2 r2 _ => he X c ρ _ f3 h3 Hf0 H0 Hf2 H2 σ ((S.grow g1).grow g2) _ fun v3 H3 Hf3 F3 g3 r3 _ => ?_⟩
      refine ⟨i, j, -1, (i - j).toNat, by rw [r1.1, r2.1, r3.1], RgC.neg o1 o2 o3 o4, k2 _ H3 Hf3 ⟨(g1.trans g2).trans g3, _, _, by rw [List.length_reverse, rngD_len]; exact walk_rangeC, fun _ _ => trivial, fun q d H4 Hf4 x H5 hd e1 e2 y => ?_⟩⟩
      obtain ⟨rfl, hx⟩ := y
      subst hx
      have hq := (List.getElem?_eq_some_iff.mp hd).1
      rw [List.length_reverse, rngD_len] at hq
      rw [List.getElem?_reverse (by rw [rngD_len]; exact hq), rngD_len, rngD_get _ _ _ (by omega)] at hd
      cases hd
      refine ⟨Hf4, .refl e2, ?_, rfl⟩
      show V.int (i + (q : Int) * -1) = _
      congr 1
      omega
    · cases h
  · cases h
end
end Z

/-! Z17: the rules with their side conditions as one look each. -/
namespace Z
open PySem PySem.Spec PyProof.Rows L2
open Evl (Ex ex_l ex_t ex_rd)

def glB (sc : Sc) (x : Str) : Bool := decide (sc.names.lookup x = some .globalImplicit)
def gdB (sc : Sc) (x : Str) : Bool := glB sc x && !(x == ("__debug__" : Str)) && !(x == ("__name__" : Str))
def visB (N : List Str) (sc : Sc) (i : Nat) (x : Str) : Bool := decide (N[i]? = some x) && (decide (sc.names.lookup x = some .local) || decide (sc.names.lookup x = some .cell) || decide (sc.names.lookup x = some .free)) && !(x == ("__debug__" : Str)) && !(x == ("__classdict__" : Str))
def locB (N : List Str) (sc : Sc) (i : Nat) (x : Str) : Bool := decide (N[i]? = some x) && (decide (sc.names.lookup x = some .local) || (decide (sc.names.lookup x = some .cell) && sc.fnb x))
def blkB (N : List Str) (sc scope : Scope) (own : List (Str × Nat)) : Bool :=
  decide (scope.kind = .function) && scope.names.all (fun y => decide (scope.names.lookup y.1 = some y.2)) && own.all (fun p => decide (N[p.2]? = some p.1)) &&
    scope.names.all (fun y => !decide (y.2 = .free) || (decide (sc.names.lookup y.1 = some .cell) || decide (sc.names.lookup y.1 = some .free))) &&
    scope.names.all (fun y => !(decide (y.2 = .local) || decide (y.2 = .cell)) || (decide (y.1 ∈ own.map (·.1)) || decide (y.1 ∉ N)))
theorem blkOk_by {N : List Str} {sc scope : Scope} {own : List (Str × Nat)} (h : blkB N sc scope own = true) : BlkOk N sc scope own := by
  unfold blkB at h
  simp only [Bool.and_eq_true, List.all_eq_true, decide_eq_true_eq, Bool.or_eq_true, Bool.not_eq_true', decide_eq_false_iff_not] at h
  obtain ⟨⟨⟨⟨h1, h2⟩, h3⟩, h4⟩, h5⟩ := h
  exact ⟨h1, h2, h3, fun y hy e => (h4 y hy).resolve_left fun z => z e, fun y hy e => (h5 y hy).resolve_left fun z => by rcases e with e | e <;> simp [e] at z⟩
section
variable {L : Law} {N : List Str} {sc : Sc} {k : Nat}
theorem glB_ {x : Str} (h : glB sc x = true) : sc.names.lookup x = some .globalImplicit := of_decide_eq_true h
theorem gdB_ {x : Str} (h : gdB sc x = true) : sc.names.lookup x = some .globalImplicit ∧ (x == ("__debug__" : Str)) = false ∧ x ≠ "__name__" := by
  unfold gdB at h
  simp only [Bool.and_eq_true, Bool.not_eq_true'] at h
  exact ⟨glB_ h.1.1, h.1.2, fun z => by have := h.2; rw [z] at this; simp at this⟩
theorem visB_ {i : Nat} {x : Str} (h : visB N sc i x = true) : N[i]? = some x ∧ Vis sc.toScope x ∧ (x == ("__debug__" : Str)) = false ∧ (x == ("__classdict__" : Str)) = false := by
  unfold visB at h
  simp only [Bool.and_eq_true, Bool.or_eq_true, decide_eq_true_eq, Bool.not_eq_true'] at h
  obtain ⟨⟨⟨h1, h2⟩, h3⟩, h4⟩ := h
  refine ⟨h1, ?_, h3, h4⟩
  rcases h2 with (h2 | h2) | h2
  · exact .inl h2
  · exact .inr (.inl h2)
  · exact .inr (.inr h2)
theorem locB_ {i : Nat} {x : Str} (h : locB N sc i x = true) : N[i]? = some x ∧ (sc.names.lookup x = some .local ∨ (sc.names.lookup x = some .cell ∧ sc.fnb x = true)) := by
  unfold locB at h
  simp only [Bool.and_eq_true, Bool.or_eq_true, decide_eq_true_eq] at h
  exact h
theorem z_slot {i : Nat} {x : Str} {pos : Pos} (h : visB N sc i x = true) : SemE L N sc k (.Name x pos) (.slot i) := let ⟨a, b, c, d⟩ := visB_ h; sem_slot a b c d
theorem z_fld {ns : List Str} {a : Expr} {a' : E} {kk : Nat} {f : Str} {pos : Pos} (O : LawOk L) (hn : L.T.nm = ns) (hf : ns[kk]? = some f) (hb : ∀ env, attributeBase a f env (eval a env) = eval a env) (ha : SemE L N sc k a a') : SemE L N sc k (.Attribute a f pos) (.fld a' kk) := sem_fld O (hn ▸ hf) hb ha
theorem callG {b : Bn} {f : Value} (hb : b ≠ .len) (h : CallT L k f (bltD b)) : CallT L k f (bltG L.G b) := by rw [bltG_ne hb]; exact h
theorem z_b {e : Expr} {es : List Expr} {es' : Es} {b : Bn} {id : String} {x : Str} {p0 pos : Pos} (hc : CallT L k (.builtin id) (bltG L.G b)) (hm : L.mg x = none) (hv : bootBuiltins x = some (.builtin id)) (h : gdB sc x = true) (hs : ∀ env, starEach (e :: es) env = (false, eval e env) :: starEach es env) (hpl : ∀ pos env, (backTo pos (starEach es env)).any (·.1) = false) (ha : SemA L N sc k (e :: es) es') (hh : sc.hot = false := by rfl) :
    SemE L N sc k (.Call (.Name x p0) (e :: es) [] pos) (.blt b es') := let ⟨a, d, n⟩ := gdB_ h; sem_blt hc a hm hv n d hs hpl ha hh
theorem z_t {e : Expr} {es : List Expr} {es' : Es} {b : Bn} {id : String} {x : Str} {p0 pos : Pos} (hc : CallT L k (.type id) (bltG L.G b)) (hm : L.mg x = none) (hv : bootBuiltins x = some (.type id)) (h : gdB sc x = true) (hs : ∀ env, starEach (e :: es) env = (false, eval e env) :: starEach es env) (hpl : ∀ pos env, (backTo pos (starEach es env)).any (·.1) = false) (ha : SemA L N sc k (e :: es) es') (hh : sc.hot = false := by rfl) :
    SemE L N sc k (.Call (.Name x p0) (e :: es) [] pos) (.blt b es') := let ⟨a, d, n⟩ := gdB_ h; sem_bltT hc a hm hv n d hs hpl ha hh
theorem z_isi {a : Expr} {a' : E} {ty : Is} {x : Str} {p0 p1 pos : Pos} (hm : L.mg "isinstance" = none) (hm1 : L.mg x = none) (hv1 : bootBuiltins x = some (.type (isN ty))) (h : (glB sc "isinstance" && gdB sc x) = true) (hty : ∀ c, ty ≠ .cls c)
    (hs : ∀ env, starEach [a, .Name x p1] env = (false, eval a env) :: starEach [.Name x p1] env) (ha : SemE L N sc k a a') : SemE L N sc k (.Call (.Name "isinstance" p0) [a, .Name x p1] [] pos) (.isi a' ty) := by
  rw [Bool.and_eq_true] at h
  obtain ⟨q, d, n⟩ := gdB_ h.2
  exact sem_isi (glB_ h.1) hm q hm1 hv1 n d hty hs (fun _ _ => rfl) ha
theorem z_isiC {a : Expr} {a' : E} {cc : Nat} {x : Str} {p0 p1 pos : Pos} (IC : C8.InsC L.T.K (L.T.cl cc)) (hm : L.mg "isinstance" = none) (hm1 : L.mg x = some (.ref (L.T.cl cc))) (h : (glB sc "isinstance" && gdB sc x) = true)
    (hs : ∀ env, starEach [a, .Name x p1] env = (false, eval a env) :: starEach [.Name x p1] env) (ha : SemE L N sc k a a') : SemE L N sc k (.Call (.Name "isinstance" p0) [a, .Name x p1] [] pos) (.isi a' (.cls cc)) := by
  rw [Bool.and_eq_true] at h
  obtain ⟨q, d, n⟩ := gdB_ h.2
  exact sem_isiC IC (glB_ h.1) hm q hm1 d hs (fun _ _ => rfl) ha
theorem z_call {f k' : Nat} {x : Str} {e : Expr} {es : List Expr} {es' : Es} {p0 pos : Pos} (C : C8.Cal L.P L.w L.T.K L.mg L.base k' x (spD L.T (L.G.call f)) []) (hk : k' ≤ k) (h : gdB sc x = true)
    (hs : ∀ env, starEach (e :: es) env = (false, eval e env) :: starEach es env) (hpl : ∀ pos env, (backTo pos (starEach es env)).any (·.1) = false) (ha : SemA L N sc k (e :: es) es') : SemE L N sc k (.Call (.Name x p0) (e :: es) [] pos) (.call f es' []) :=
  let ⟨a, d, _⟩ := gdB_ h; sem_call C (fun _ _ => ⟨rfl, rfl⟩) hk a d hs hpl ha
theorem z_call0 {f k' : Nat} {x : Str} {p0 pos : Pos} (C : C8.Cal L.P L.w L.T.K L.mg L.base k' x (spD L.T (L.G.call f)) []) (hk : k' ≤ k) (h : gdB sc x = true) : SemE L N sc k (.Call (.Name x p0) [] [] pos) (.call f .nil []) :=
  let ⟨a, d, _⟩ := gdB_ h; sem_call0 C (fun _ _ => ⟨rfl, rfl⟩) hk a d
theorem z_mk {cc k' : Nat} {x : Str} {e : Expr} {es : List Expr} {es' : Es} {p0 pos : Pos} (C : C8.Mak L.P L.w L.T.K L.mg L.base k' x (L.T.cl cc) (spI L.T cc fun _ => L.G.new cc) []) (hk : k' + 1 ≤ k) (h : gdB sc x = true)
    (hs : ∀ env, starEach (e :: es) env = (false, eval e env) :: starEach es env) (hpl : ∀ pos env, (backTo pos (starEach es env)).any (·.1) = false) (ha : SemA L N sc k (e :: es) es') : SemE L N sc k (.Call (.Name x p0) (e :: es) [] pos) (.mk cc es' []) :=
  let ⟨a, d, _⟩ := gdB_ h; sem_mk C (fun _ _ => ⟨rfl, rfl⟩) (fun _ _ h _ => h) hk a d hs hpl ha
theorem z_lc {elt tg iter : Expr} {ifs : List Expr} {scope : Scope} {own : List (Str × Nat)} {pos : Pos} {vs : List Nat} {elt' : E} {t' : Tg} {it' : It} {ifs' : Es} (hok : blkB N sc.toScope scope own = true) (hs : ∀ env x, foldedSetIterable iter env x = pure x)
    (hvs : own.map (·.2) = vs) (htg : tgIn vs t' = true) (hit : SemI L N sc k tg iter it') (hg : SemG L N (blkSc sc scope) k tg t') (hif : SemC L N (blkSc sc scope) k ifs ifs') (he : SemE L N (blkSc sc scope) k elt elt') (hh : sc.hot = false := by rfl) :
    SemE L N sc k (.ListComp elt [⟨tg, iter, ifs, 0⟩] scope pos) (.lc vs elt' t' it' ifs') := sem_lc (blkOk_by hok) hs hit hvs htg hg hif he hh
theorem z_c0 {sc : Sc} : SemC L N sc k [] .nil := .inl ⟨rfl, rfl⟩
theorem z_c1 {sc : Sc} {e : Expr} {e' : E} (h : SemT L N sc k e e') : SemC L N sc k [e] (.cons e' .nil) := .inr ⟨_, _, rfl, rfl, h⟩
theorem z_gn {i : Nat} {x : Str} {pos : Pos} (h : locB N sc i x = true) : SemG L N sc k (.Name x pos) (.name i) := semG_name (locB_ h).1 (locB_ h).2
theorem z_gt {es : List Expr} {kk : Nat} {ts : List Tg} {pos : Pos} (hn : ∀ env, (assignEach es env).length = ts.length) (hst : ∀ env, (assignEach es env).findIdx? (·.1) = none) (h : SemGs L N sc k es ts) (hh : sc.hot = false := by rfl) : SemG L N sc k (.Tuple es kk pos) (.tup ts) := semG_tup hn hst h hh
theorem z_r1 {tg a : Expr} {a' : E} {p pos : Pos} (hm : L.mg "range" = none) (hg : glB sc "range" = true) (hs : ∀ env, starEach [a] env = [(false, eval a env)]) (ha : SemE L N sc k a a') : SemI L N sc k tg (.Call (.Name "range" p) [a] [] pos) (.rng1 a') := semI_rng1 (glB_ hg) hm hs ha
theorem z_r2 {tg a b : Expr} {a' b' : E} {p pos : Pos} (hm : L.mg "range" = none) (hg : glB sc "range" = true) (hs : ∀ env, starEach [a, b] env = [(false, eval a env), (false, eval b env)]) (hs2 : ∀ env, starEach [b] env = [(false, eval b env)]) (ha : SemE L N sc k a a') (hb : SemE L N sc k b b') :
    SemI L N sc k tg (.Call (.Name "range" p) [a, b] [] pos) (.rng2 a' b') := semI_rng2 (glB_ hg) hm hs hs2 ha hb
theorem z_down {tg a b e : Expr} {a' b' e' : E} {p pos : Pos} (hm : L.mg "range" = none) (hg : glB sc "range" = true) (hs : ∀ env, starEach [a, b, e] env = (false, eval a env) :: starEach [b, e] env) (hs2 : ∀ env, starEach [b, e] env = (false, eval b env) :: starEach [e] env) (hs3 : ∀ env, starEach [e] env = (false, eval e env) :: starEach [] env)
    (hpl : ∀ pos env, (backTo pos (starEach [b, e] env)).any (·.1) = false) (ha : SemE L N sc k a a') (hb : SemE L N sc k b b') (he : SemE L N sc k e e') : SemI L N sc k tg (.Call (.Name "range" p) [a, b, e] [] pos) (.down a' b' e') := semI_down (glB_ hg) hm hs hs2 hs3 hpl ha hb he
theorem z_enum {elts : List Expr} {kk : Nat} {tpos : Pos} {e : Expr} {e' : E} {p pos : Pos} (hm : L.mg "enumerate" = none) (hg : glB sc "enumerate" = true) (hs : ∀ env, starEach [e] env = [(false, eval e env)]) (he : SemE L N sc k e e') :
    SemI L N sc k (.Tuple elts kk tpos) (.Call (.Name "enumerate" p) [e] [] pos) (.enum e') := semI_enum (glB_ hg) hm hs he
theorem z_zip {elts : List Expr} {kk : Nat} {tpos : Pos} {a b : Expr} {a' b' : E} {p pos : Pos} (hm : L.mg "zip" = none) (hg : glB sc "zip" = true) (hs : ∀ env, starEach [a, b] env = (false, eval a env) :: starEach [b] env) (hs2 : ∀ env, starEach [b] env = [(false, eval b env)])
    (hpl : ∀ pos env, (backTo pos (starEach [b] env)).any (·.1) = false) (ha : SemE L N sc k a a') (hb : SemE L N sc k b b') : SemI L N sc k (.Tuple elts kk tpos) (.Call (.Name "zip" p) [a, b] [] pos) (.zip a' b') := semI_zip (glB_ hg) hm hs hs2 hpl ha hb
theorem z_maxN {e : Expr} {e' : E} {j : Nat} {p0 p1 p2 pos : Pos} (hm : L.mg "max" = none) (hg : glB sc "max" = true) (hs : ∀ env, starEach [e] env = [(false, eval e env)]) (he : SemE L N sc k e e') (hh : sc.hot = false := by rfl) :
    SemE L N sc k (.Call (.Name "max" p0) [e] [⟨some "default", .Constant .none j p1, p2⟩] pos) (.blt .maxN (.cons e' .nil)) := sem_maxN (glB_ hg) hm hs he hh
/-! statements -/
theorem z_asg {i : Nat} {x : Str} {e : Expr} {e' : E} {pos pos' : Pos} (h : locB N sc i x = true) (hs : ∀ l env, swapsWith e (some (.Name x pos')) l env = pure false) (he : SemE L N sc k e e') : SemS L N sc k (.Assign [.Name x pos'] e pos) (.asg (.name i) e') := semS_asg (locB_ h).1 (locB_ h).2 hs he
/-- a comprehension is stored straight into a plain local -/
def swB (sc : Sc) (scope : Scope) (y : Str) (py pos : Pos) : Bool := decide (sc.kind = .function) && decide (sc.names.lookup y = some .local) && (py.line == pos.line) && !(scope.names.any fun (n, k) => n == y && (k == .local || k == .cell))
theorem z_asgLc {i : Nat} {y : Str} {py pos spos : Pos} {elt tg iter : Expr} {ifs : List Expr} {scope : Scope} {own : List (Str × Nat)} {vs : List Nat} {elt' : E} {t' : Tg} {it' : It} {ifs' : Es} (hN : locB N sc i y = true) (hsw : swB sc scope y py pos = true)
    (hok : blkB N sc.toScope scope own = true) (hs : ∀ env x, foldedSetIterable iter env x = pure x) (hvs : own.map (·.2) = vs) (htg : tgIn vs t' = true)
    (hit : SemI L N sc k tg iter it') (hg : SemG L N (blkSc sc scope) k tg t') (hif : SemC L N (blkSc sc scope) k ifs ifs') (he : SemE L N (blkSc sc scope) k elt elt') (hh : sc.hot = false := by rfl) :
    SemS L N sc k (.Assign [.Name y py] (.ListComp elt [⟨tg, iter, ifs, 0⟩] scope pos) spos) (.asg (.name i) (.lc vs elt' t' it' ifs')) := by
  unfold swB at hsw
  simp only [Bool.and_eq_true, decide_eq_true_eq] at hsw
  obtain ⟨⟨⟨h1, h2⟩, h3⟩, h4⟩ := hsw
  have bk : ∀ env : Env, env.scope = sc.toScope → env.blockKind = .function := fun env he => by
    unfold Env.blockKind
    rw [he, h1]
    rfl
  refine semS_asgLc (locB_ hN).1 h2 (fun env he hb => ?_) (fun X c => bk _ c.hsc) (blkOk_by hok) hs hit hvs htg hg hif he hh
  show (pure (env.blockKind == .function && env.kindOf y == some .local && py.line == pos.line && !(scope.names.any fun (n, k) => n == y && (k == .local || k == .cell))) : Sem Bool) = pure true
  have e1 : env.kindOf y = some .local := by unfold Env.kindOf; rw [he]; exact h2
  rw [hb, e1, h3, h4]
  rfl
/-- .. where it is not a plain local -/
def nwB (sc : Sc) (scope : Scope) (y : Str) : Bool := !decide (sc.names.lookup y = some .local) || (scope.names.any fun (n, k) => n == y && (k == .local || k == .cell))
theorem z_asgLf {i : Nat} {y : Str} {py pos spos : Pos} {elt : Expr} {gens : List Comprehension} {scope : Scope} {e' : E} (hN : locB N sc i y = true) (hnw : nwB sc scope y = true) (he : SemE L N sc k (.ListComp elt gens scope pos) e') :
    SemS L N sc k (.Assign [.Name y py] (.ListComp elt gens scope pos) spos) (.asg (.name i) e') := by
  intro X c ρ o h Hf0 H0 Hf H σ S D p
  obtain ⟨hN, hx⟩ := locB_ hN
  have sw : swapsWith (.ListComp elt gens scope pos) (some (.Name y py)) spos.line X.env = pure false := by
    show (pure (X.env.blockKind == .function && X.env.kindOf y == some .local && py.line == pos.line && !(scope.names.any fun (n, k) => n == y && (k == .local || k == .cell))) : Sem Bool) = pure false
    congr 1
    have e1 : X.env.kindOf y = sc.names.lookup y := by unfold Env.kindOf; rw [c.hsc]
    rw [e1]
    unfold nwB at hnw
    rw [Bool.or_eq_true, Bool.not_eq_true', decide_eq_false_iff_not] at hnw
    rcases hnw with q | q
    · have : (sc.names.lookup y == some NameKind.local) = false := by simpa using q
      rw [this]; simp
    · rw [q]; simp
  simp only [run1] at h
  split at h
  · rename_i d hd
    cases h
    obtain ⟨Hf1, e1, S1⟩ := S.frzL (kept e')
    have loc : Loc X.env.scope y := by
      rw [c.hsc]
      rcases hx with h | h
      · exact .inl h
      · exact .inr h.1
    have hf : X.fn y = true ∨ X.env.scope.names.lookup y = some .local := by
      rw [c.hsc]
      rcases hx with h | h
      · exact .inr h
      · exact .inl (c.fn y h.2)
    exact by_ps (ps_set (i := i) (by rw [c.hN]; exact c.nd) (by rw [c.hN]; exact hN) loc (pe_ _) sw hf) (he X c _ d true hd Hf0 H0 Hf1 H σ S1 _ fun v H2 Hf2 F g r n => p _ Hf2 H2 (e1.trans g.f) (S1.set i g r (n rfl)))
  · cases h
theorem z_app {i : Nat} {x : Str} {e : Expr} {e' : E} {p1 apos cpos pos : Pos} (h : visB N sc i x = true) (hline : (apos.endLine == cpos.line) = true) (hs : ∀ env, starEach [e] env = [(false, eval e env)]) (he : SemE L N sc k e e') :
    SemS L N sc k (.Expr (.Call (.Attribute (.Name x p1) "append" apos) [e] [] cpos) pos) (.app i e') := let ⟨a, b, c, d⟩ := visB_ h; semS_app a b c d hline hs he
theorem z_sfld {ns : List Str} {i kk : Nat} {x f : Str} {e : Expr} {e' : E} {p1 p2 pos : Pos} (O : LawOk L) (hn : L.T.nm = ns) (hf : ns[kk]? = some f) (h : visB N sc i x = true) (hs : ∀ l env, swapsWith e (some (.Attribute (.Name x p1) f p2)) l env = pure false) (he : SemE L N sc k e e') :
    SemS L N sc k (.Assign [.Attribute (.Name x p1) f p2] e pos) (.fld i kk e') := let ⟨a, b, c, d⟩ := visB_ h; semS_fld O a b c d (hn ▸ hf) hs he
theorem z_ssub {i : Nat} {x : Str} {ix e : Expr} {ix' e' : E} {p1 p2 pos : Pos} (h : visB N sc i x = true)
    (hs : ∀ l env, swapsWithSole [.Subscript (.Name x p1) ix p2] e l env = pure false) (hw : ∀ env, swappedStores [.Subscript (.Name x p1) ix p2] e env = pure none) (h1 : ∀ env, (assignEach [.Subscript (.Name x p1) ix p2] env).map (·.2) = [assign (.Subscript (.Name x p1) ix p2) env])
    (ha : ∀ env v, assign (.Subscript (.Name x p1) ix p2) env v = (do
      let ov ← holding [v] (eval (.Name x p1) env)
      let iv ← holding [v, ov] (eval ix env)
      standAt p2
      holding [v, ov, iv] (setItem ov iv v)
      release [v, ov, iv] []))
    (hi : SemE L N sc k ix ix') (he : SemE L N sc k e e') : SemS L N sc k (.Assign [.Subscript (.Name x p1) ix p2] e pos) (.sub i ix' e') := let ⟨a, b, c, d⟩ := visB_ h; semS_sub a b c d hs hw h1 ha hi he
end
/-! ### objects, levels -/
open Classical in
noncomputable def newD (G : Gd) (c : Nat) (F : Def) (ds : List D) : Option D := if h : ∃ t, ∀ a, initD G c F a ds = some t then some h.choose else none
theorem newD_of {G : Gd} {c : Nat} {F : Def} {ds : List D} {t : D} (h : ∀ a, initD G c F a ds = some t) : newD G c F ds = some t := by
  unfold newD
  have ex : ∃ t, ∀ a, initD G c F a ds = some t := ⟨t, h⟩
  rw [dif_pos ex]
  exact (ex.choose_spec 0).symm.trans (h 0)
theorem newD_inv {G : Gd} {c : Nat} {F : Def} {ds : List D} {t : D} (h : newD G c F ds = some t) : ∀ a, initD G c F a ds = some t := by
  unfold newD at h
  split at h
  · rename_i ex
    cases h
    exact ex.choose_spec
  · cases h
section
variable {P : Program} {w : World} {K : PySem.W.Frag} {mg : Str → Option Value} {base : Heap} {T : Tab} {k : Nat} {f : Addr} {fd : FuncData} {ps : List Str}
theorem fn_none : FnOk P w K mg base CX0 k f fd ps (spD T fun _ => none) :=
  ⟨fun vs H Q E ⟨_, _, _, _, _, h, _⟩ => (nomatch h), fun A outer s H args us vs Q E hr he hb hv ⟨_, _, _, _, _, h, _⟩ => (nomatch h)⟩
theorem init_none {c : Nat} : FnOk P w K mg base CX0 k f fd ps (spI T c fun _ _ => none) :=
  ⟨fun vs H Q E ⟨_, _, _, _, _, _, _, _, _, _, _, h, _⟩ => (nomatch h), fun A outer s H args us vs Q E hr he hb hv ⟨_, _, _, _, _, _, _, _, _, _, _, h, _⟩ => (nomatch h)⟩
theorem init_new {G : Gd} {c : Nat} {F : Def} (h : FnOk P w K mg base CX0 k f fd ps (spI T c (initD G c F))) : FnOk P w K mg base CX0 k f fd ps (spI T c fun _ => newD G c F) :=
  h.imp fun vs H Q E ⟨a, dx, vs', Hf, ds, d, h1, h2, h3, h4, h5, h6, h7⟩ => ⟨a, dx, vs', Hf, ds, d, h1, h2, h3, h4, h5, newD_inv h6 a, h7⟩
/-- a def of the module as the top leaves it -/
structure At (K : PySem.W.Frag) (mg : Str → Option Value) (x : Str) (st : Stmt) (ps : List Str) (f : Addr) (fd : FuncData) : Prop where
  fn : C8.Fun K x x st f fd
  mgf : mg x = some (.ref f)
  kp : PySem.W.keepIn K (.ref f) = true
  b : Binds K fd ps []
/-- a method -/
structure MtAt (K : PySem.W.Frag) (C : Addr) (x qual : Str) (st : Stmt) (ps : List Str) (f : Addr) (fd : FuncData) : Prop where
  fn : C8.Fun K x qual st f fd
  fi : PySem.W.findIn K (.ref C) x = some (some (.ref f))
  isf : PySem.W.isFn K (.ref f) = true
  kp : PySem.W.keepIn K (.ref f) = true
  b : Binds K fd ps []
theorem At.cal {x : Str} {st : Stmt} {sp : Sp} (a : At K mg x st ps f fd) (h : FnOk P w K mg base CX0 k f fd ps sp) : C8.Cal P w K mg base k x sp [] := ⟨f, fd, ps, [], h, a.mgf, a.kp, a.b, .nil⟩
theorem MtAt.own {x qual : Str} {st : Stmt} {sp : Sp} {C : Addr} (a : MtAt K C x qual st ps f fd) (h : FnOk P w K mg base CX0 k f fd ps sp) : Own P w K mg base k C x sp := ⟨f, fd, ps, h, a.b, a.fi, a.isf⟩
theorem MtAt.met {x qual : Str} {st : Stmt} {sp : Sp} {C : Addr} (a : MtAt K C x qual st ps f fd) (c : Cls K C) (h : FnOk P w K mg base CX0 k f fd ps sp) : C8.Met P w K mg base k C x sp [] := ⟨f, fd, ps, [], c, ⟨a.fi, a.isf, a.kp⟩, h, a.b, .nil⟩
theorem MtAt.mak {qual xc : Str} {st : Stmt} {sp : Sp} {C : Addr} (a : MtAt K C "__init__" qual st ps f fd) (mk : PySem.W.makesIn K C = true) (kc : PySem.W.keepIn K (.ref C) = true) (hm : mg xc = some (.ref C)) (h : FnOk P w K mg base CX0 k f fd ps sp) : C8.Mak P w K mg base k xc C sp [] :=
  ⟨f, fd, ps, [], ⟨mk, a.fi, a.isf, kc⟩, h, hm, a.b, .nil⟩
end
/-- binding is plain -/
theorem binds1 {K : PySem.W.Frag} {x qual : Str} {st : Stmt} {f : Addr} {fd : FuncData} (F : C8.Fun K x qual st f fd) (df : fd.defaults = .none) {ps : List Str}
    (h : ∀ (kV doc pm : Value) (an : Option Addr) (cdv ct : Value) (us : List Value), us.length = ps.length → bindArgs (PySem.W.fnOf x qual (C8.fnArgs st) (C8.fnBody st) (C8.fnScope st) .none kV doc pm an cdv ct) ⟨us, []⟩ = pure (ps.zip us)) : Binds K fd ps [] := F.binds df h
end Z

/-! Z18: computing with the language. -/
namespace Z
open PySem L2

theorem frzAt_nil (i : Nat) : frzAt [] i = [] := by unfold frzAt; simp
theorem frzAt_z (d : D) (ρ : Rho) : frzAt (some d :: ρ) 0 = some (frz d) :: ρ := rfl
theorem frzAt_n (ρ : Rho) : frzAt (none :: ρ) 0 = none :: ρ := rfl
theorem frzAt_s (x : Option D) (ρ : Rho) (i : Nat) : frzAt (x :: ρ) (i + 1) = x :: frzAt ρ i := by
  unfold frzAt
  simp only [List.getElem?_cons_succ, List.set_cons_succ]
  split <;> rfl
theorem frz_int (i : Int) : frz (.int i) = .int i := rfl
theorem frz_bl (i : Bool) : frz (.bl i) = .bl i := rfl
theorem frz_non : frz .non = .non := rfl
theorem frz_tup (ds : List D) : frz (.tup ds) = .tup ds := rfl
theorem frz_objn (c : Nat) (ks : List Nat) (ds : List D) : frz (.obj none c ks ds) = .obj none c ks ds := rfl
theorem frz_ro (ds : List D) : frz (.lst .ro ds) = .lst .ro (frzS ds) := rfl
theorem frz_own (ds : List D) : frz (.lst .own ds) = .lst .fz (frzS ds) := rfl
theorem frz_fz' (ds : List D) : frz (.lst .fz ds) = .lst .fz (frzS ds) := rfl
/-- never changed by freezing -/
theorem frzS_id {ds : List D} (h : ∀ d ∈ ds, frz d = d) : frzS ds = ds := by
  rw [frzS_map]
  induction ds with
  | nil => rfl
  | cons d r ih => rw [List.map_cons, h d List.mem_cons_self, ih fun x hx => h x (List.mem_cons_of_mem _ hx)]
theorem frzS_ints (ns : List Int) : frzS (ns.map D.int) = ns.map D.int := frzS_id fun d hd => by obtain ⟨i, _, rfl⟩ := List.mem_map.mp hd; rfl
theorem fz_int (i : Int) : (D.int i).fz = true := rfl
theorem fz_bl (b : Bool) : (D.bl b).fz = true := rfl
theorem fz_non : D.non.fz = true := rfl
theorem fz_tup (ds : List D) : (D.tup ds).fz = true := rfl
theorem fz_lf (ds : List D) : (D.lst .fz ds).fz = true := rfl
theorem fz_lr (ds : List D) : (D.lst .ro ds).fz = true := rfl
theorem fz_lo (ds : List D) : (D.lst .own ds).fz = false := rfl
theorem fz_on (c : Nat) (ks : List Nat) (ds : List D) : (D.obj none c ks ds).fz = true := rfl
theorem seqD_l (m : M) (ds : List D) : seqD (.lst m ds) = some ds := rfl
theorem seqD_t (ds : List D) : seqD (.tup ds) = some ds := rfl
theorem fzs_all {ds : List D} (h : ∀ d ∈ ds, d.fz = true) : fzs ds = true := List.all_eq_true.mpr h
theorem fzs_ints (ns : List Int) : fzs (ns.map D.int) = true := fzs_all fun d hd => by obtain ⟨i, _, rfl⟩ := List.mem_map.mp hd; rfl
theorem fz_frz (d : D) : (frz d).fz = true := frz_fz d
theorem at_nat (ds : List D) (i : Int) (h0 : 0 ≤ i) (h1 : i < ds.length) : at? ds i = ds[i.toNat]? := by
  unfold at? atI ixN
  rw [if_pos h0, if_pos (by omega)]
  rfl

/-! ### loops -/
theorem forD_inv {bd : D → Rho → Option Rho} {body : Rho → Option Out} (P : Nat → Rho → Prop) : ∀ {items : List D} {ρ : Rho} (k : Nat), P k ρ → (∀ i d ρ, items[i]? = some d → P (k + i) ρ → ∃ ρ1 ρ2, bd d ρ = some ρ1 ∧ (body ρ1 = some (.nx ρ2) ∨ body ρ1 = some (.ct ρ2)) ∧ P (k + i + 1) ρ2) → ∃ ρ', forD bd body items ρ = some (.nx ρ') ∧ P (k + items.length) ρ'
  | [], ρ, k, h, _ => ⟨ρ, rfl, h⟩
  | d :: r, ρ, k, h, hs => by
    obtain ⟨ρ1, ρ2, h1, h2, h3⟩ := hs 0 d ρ rfl h
    obtain ⟨ρ', h4, h5⟩ := forD_inv (bd := bd) (body := body) P (items := r) (ρ := ρ2) (k + 1) h3 fun i d' ρ hi hp => by
      have := hs (i + 1) d' ρ (by simpa using hi) (by rw [show k + (i + 1) = k + 1 + i by omega]; exact hp)
      obtain ⟨a, b, q1, q2, q3⟩ := this
      exact ⟨a, b, q1, q2, by rw [show k + 1 + i + 1 = k + (i + 1) + 1 by omega]; exact q3⟩
    refine ⟨ρ', ?_, by rw [List.length_cons, show k + (r.length + 1) = k + 1 + r.length by omega]; exact h5⟩
    rcases h2 with h2 | h2 <;> simp only [forD, h1, h2] <;> exact h4
/-- a loop over items, from the first -/
theorem for_inv {bd : D → Rho → Option Rho} {body : Rho → Option Out} (P : Nat → Rho → Prop) {items : List D} {ρ : Rho} (h : P 0 ρ) (hs : ∀ i d ρ, items[i]? = some d → P i ρ → ∃ ρ1 ρ2, bd d ρ = some ρ1 ∧ (body ρ1 = some (.nx ρ2) ∨ body ρ1 = some (.ct ρ2)) ∧ P (i + 1) ρ2) : ∃ ρ', forD bd body items ρ = some (.nx ρ') ∧ P items.length ρ' := by
  have := forD_inv (bd := bd) (body := body) P (items := items) (ρ := ρ) 0 h fun i d ρ hi hp => by
    have := hs i d ρ hi (by simpa using hp)
    simpa using this
  simpa using this
theorem compD_map {f : D → Option (Option D)} (g : D → Option D) : ∀ {items : List D}, (∀ d ∈ items, f d = some (g d)) → compD f items = some (items.filterMap g)
  | [], _ => rfl
  | d :: r, h => by
    have h1 := h d List.mem_cons_self
    have h2 := compD_map g (items := r) fun x hx => h x (List.mem_cons_of_mem _ hx)
    cases e : g d with
    | none => simp only [compD, h1, e, h2, List.filterMap_cons]
    | some y => simp only [compD, h1, e, h2, List.filterMap_cons]
/-- .. of items that are images, without a test -/
theorem compD_all {α : Type} {f : D → Option (Option D)} (c : α → D) (g : α → D) {l : List α} (h : ∀ x ∈ l, f (c x) = some (some (g x))) : compD f (l.map c) = some (l.map g) := by
  induction l with
  | nil => rfl
  | cons x r ih =>
    have h1 := h x List.mem_cons_self
    have h2 := ih fun y hy => h y (List.mem_cons_of_mem _ hy)
    simp only [List.map_cons, compD, h1, h2]
/-- .. with one -/
theorem compD_sel {α : Type} {f : D → Option (Option D)} (c : α → D) (g : α → Option D) {l : List α} (h : ∀ x ∈ l, f (c x) = some (g x)) : compD f (l.map c) = some (l.filterMap g) := by
  induction l with
  | nil => rfl
  | cons x r ih =>
    have h1 := h x List.mem_cons_self
    have h2 := ih fun y hy => h y (List.mem_cons_of_mem _ hy)
    cases e : g x with
    | none => simp only [List.map_cons, compD, h1, h2, e, List.filterMap_cons]
    | some y => simp only [List.map_cons, compD, h1, h2, e, List.filterMap_cons]
theorem rngD_map (lo : Int) : ∀ n : Nat, rngD lo n = (List.range n).map fun i : Nat => D.int (lo + i)
  | 0 => rfl
  | n + 1 => by
    apply List.ext_getElem?
    intro i
    by_cases h : i < n + 1
    · rw [rngD_get _ _ _ h, List.getElem?_map, List.getElem?_range h]
      rfl
    · rw [List.getElem?_eq_none (by rw [rngD_len]; omega), List.getElem?_eq_none (by simp; omega)]
/-! ### a statement, then the rest -/
theorem runs_nx {G : Gd} {s : S} {r : Ss} {ρ ρ' : Rho} {o : Option Out} (h : run1 G s ρ = some (.nx ρ')) (h2 : runs G r ρ' = o) : runs G (.cons s r) ρ = o := by
  simp only [runs, h]; exact h2
theorem runs_rt {G : Gd} {s : S} {r : Ss} {ρ : Rho} {d : D} (h : run1 G s ρ = some (.rt d)) : runs G (.cons s r) ρ = some (.rt d) := by
  simp only [runs, h]
theorem runD_rt {G : Gd} {f : Z.Def} {ds : List D} {d : D} (hl : ds.length = f.ps) (h : runs G f.body (startR f.n ds) = some (.rt d)) : runD G f ds = some d := by
  unfold runD
  rw [if_pos hl, h]
theorem runD_nx {G : Gd} {f : Z.Def} {ds : List D} {ρ : Rho} (hl : ds.length = f.ps) (h : runs G f.body (startR f.n ds) = some (.nx ρ)) : runD G f ds = some .non := by
  unfold runD
  rw [if_pos hl, h]

/-! ### one rule each -/
section
variable {G : Gd} {ρ : Rho}
theorem ev_slot {i : Nat} : ev G (.slot i) ρ = match ρ[i]? with | some (some d) => some (d, d.fz) | _ => none := by first | (simp only [ev]; done) | (simp only [ev]; rfl)
theorem ev_con {d : D} : ev G (.con d) ρ = if d.scal then some (d, true) else none := by first | (simp only [ev]; done) | (simp only [ev]; rfl)
theorem ev_bin {op : Operator} {a b : E} : ev G (.bin op a b) ρ = match ev G a ρ, ev G b ρ with | some (x, _), some (y, _) => (binG G op x y).map (·, true) | _, _ => none := by first | (simp only [ev]; done) | (simp only [ev]; rfl)
theorem ev_un {op : UnaryOp} {a : E} : ev G (.un op a) ρ = match ev G a ρ with | some (x, _) => (unD op x).map (·, true) | none => none := by first | (simp only [ev]; done) | (simp only [ev]; rfl)
theorem ev_cmp {op : CmpOp} {a b : E} : ev G (.cmp op a b) ρ = match ev G a ρ, ev G b ρ with | some (x, _), some (y, _) => (cmpG G op x y).map fun k => (.bl k, true) | _, _ => none := by first | (simp only [ev]; done) | (simp only [ev]; rfl)
theorem ev_chain {op op' : CmpOp} {a b c : E} : ev G (.chain op op' a b c) ρ = match ev G a ρ, ev G b ρ with
    | some (x, _), some (y, _) => match cmpD op x y with
      | some true => match ev G c ρ with
        | some (z, _) => (cmpD op' y z).map fun k => (.bl k, true)
        | none => none
      | some false => some (.bl false, true)
      | none => none
    | _, _ => none := by first | (simp only [ev]; done) | (simp only [ev]; rfl)
theorem ev_and {a b : E} : ev G (.and a b) ρ = match ev G a ρ with
    | some (.bl true, _) => match ev G b ρ with
      | some (.bl k, _) => some (.bl k, true)
      | _ => none
    | some (.bl false, _) => some (.bl false, true)
    | _ => none := by first | (simp only [ev]; done) | (simp only [ev]; rfl)
theorem ev_or {a b : E} : ev G (.or a b) ρ = match ev G a ρ with
    | some (.bl false, _) => match ev G b ρ with
      | some (.bl k, _) => some (.bl k, true)
      | _ => none
    | some (.bl true, _) => some (.bl true, true)
    | _ => none := by first | (simp only [ev]; done) | (simp only [ev]; rfl)
theorem ev_not {a : E} : ev G (.not a) ρ = match ev G a ρ with | some (.bl k, _) => some (.bl (!k), true) | _ => none := by first | (simp only [ev]; done) | (simp only [ev]; rfl)
theorem ev_ite {c a b : E} : ev G (.ite c a b) ρ = match ev G c ρ with | some (.bl true, _) => ev G a ρ | some (.bl false, _) => ev G b ρ | _ => none := by first | (simp only [ev]; done) | (simp only [ev]; rfl)
theorem ev_idx {a b : E} : ev G (.idx a b) ρ = match ev G a ρ, ev G b ρ with
    | some (x, _), some (.int i, _) => match seqD x with
      | some ds => (at? ds i).map fun d => (d, d.fz)
      | none => none
    | _, _ => none := by first | (simp only [ev]; done) | (simp only [ev]; rfl)
theorem ev_sl {a lo hi : E} : ev G (.sl a lo hi) ρ = match ev G a ρ, optI lo (ev G lo ρ), optI hi (ev G hi ρ) with
    | some (.lst _ ds, _), some l, some h => if fzs ds then
        some (.lst .own ((ds.drop (sIxD ds.length 0 l)).take (sIxD ds.length ds.length h - sIxD ds.length 0 l)), true) else none
    | some (.tup ds, _), some l, some h => some (.tup ((ds.drop (sIxD ds.length 0 l)).take (sIxD ds.length ds.length h - sIxD ds.length 0 l)), true)
    | _, _, _ => none := by first | (simp only [ev]; done) | (simp only [ev]; rfl)
theorem ev_keep {a : E} : ev G (.keep a) ρ = ev G a ρ := by first | (simp only [ev]; done) | (simp only [ev]; rfl)
theorem ev_fld {a : E} {k : Nat} : ev G (.fld a k) ρ = match ev G a ρ with | some (.obj _ _ ks ds, _) => (getF k ks ds).map fun d => (d, d.fz) | _ => none := by first | (simp only [ev]; done) | (simp only [ev]; rfl)
theorem ev_tup {es : Es} : ev G (.tup es) ρ = match evs G es ρ with | some (ds, true) => if decide (ds.length ≤ most) then some (.tup (frzS ds), true) else none | _ => none := by first | (simp only [ev]; done) | (simp only [ev]; rfl)
theorem ev_lst {es : Es} : ev G (.lst es) ρ = match evs G es ρ with | some (ds, true) => if decide (ds.length ≤ most) then some (.lst .own ds, true) else none | _ => none := by first | (simp only [ev]; done) | (simp only [ev]; rfl)
theorem ev_call {f : Nat} {es : Es} {dd : List D} : ev G (.call f es dd) ρ = match evs G es ρ with | some (ds, true) => if dd.all D.dfl then (G.call f (frzS ds ++ dd)).map (·, true) else none | _ => none := by first | (simp only [ev]; done) | (simp only [ev]; rfl)
theorem ev_mk {c : Nat} {es : Es} {dd : List D} : ev G (.mk c es dd) ρ = match evs G es ρ with | some (ds, true) => if dd.all D.dfl then (G.new c (frzS ds ++ dd)).map (·, true) else none | _ => none := by first | (simp only [ev]; done) | (simp only [ev]; rfl)
theorem ev_blt {b : Bn} {es : Es} : ev G (.blt b es) ρ = match evs G es ρ with | some (ds, _) => (bltG G b ds).map (·, true) | none => none := by first | (simp only [ev]; done) | (simp only [ev]; rfl)
theorem ev_isi {a : E} {k : Is} : ev G (.isi a k) ρ = match ev G a ρ with | some (x, _) => (isiD x k).map fun b => (.bl b, true) | none => none := by first | (simp only [ev]; done) | (simp only [ev]; rfl)
theorem ev_lc {vs : List Nat} {elt : E} {tg : Tg} {it : It} {ifs : Es} {items ds : List D} (h1 : evI G it ρ = some items) (hl : items.length ≤ 40000) (h2 : compD (lcF G vs elt tg ifs ρ) items = some ds) : ev G (.lc vs elt tg it ifs) ρ = some (.lst .own ds, true) := by
  simp only [ev, h1]
  rw [if_pos (decide_eq_true hl)]
  show ((compD (lcF G vs elt tg ifs ρ) items).map fun ds => (D.lst M.own ds, true)) = _
  rw [h2]
  rfl
theorem lcF_yes {vs : List Nat} {elt : E} {tg : Tg} {ifs : Es} {d x : D} {ρ' : Rho} (h1 : bindT tg d (wipeR ρ vs) = some ρ') (h2 : evT G ifs ρ' = some true) (h3 : ev G elt ρ' = some (x, true)) : lcF G vs elt tg ifs ρ d = some (some x) := by
  simp only [lcF, h1, h2, h3]
theorem lcF_no {vs : List Nat} {elt : E} {tg : Tg} {ifs : Es} {d : D} {ρ' : Rho} (h1 : bindT tg d (wipeR ρ vs) = some ρ') (h2 : evT G ifs ρ' = some false) : lcF G vs elt tg ifs ρ d = some none := by
  simp only [lcF, h1, h2]
theorem evs_nil : evs G .nil ρ = some ([], true) := by first | (simp only [evs]; done) | (simp only [evs]; rfl)
theorem evs_cons {e : E} {r : Es} : evs G (.cons e r) ρ = match ev G e ρ, evs G r ρ with | some (d, f), some (ds, g) => some (d :: ds, f && g) | _, _ => none := by first | (simp only [evs]; done) | (simp only [evs]; rfl)
theorem evT_nil : evT G .nil ρ = some true := by simp only [evT]
theorem evI_lst {e : E} : evI G (.lst e) ρ = match ev G e ρ with | some (d, true) => seqD (frz d) | _ => none := by first | (simp only [evI]; done) | (simp only [evI]; rfl)
theorem evI_r1 {e : E} : evI G (.rng1 e) ρ = match ev G e ρ with | some (.int j, _) => if rngOk 0 j then some (rngD 0 j.toNat) else none | _ => none := by first | (simp only [evI]; done) | (simp only [evI]; rfl)
theorem evI_r2 {a b : E} : evI G (.rng2 a b) ρ = match ev G a ρ, ev G b ρ with | some (.int i, _), some (.int j, _) => if rngOk i j then some (rngD i (j - i).toNat) else none | _, _ => none := by first | (simp only [evI]; done) | (simp only [evI]; rfl)
theorem evI_down {a b c : E} : evI G (.down a b c) ρ = match ev G a ρ, ev G b ρ, ev G c ρ with | some (.int i, _), some (.int j, _), some (.int l, _) => if rngOk i j && decide (l = -1) then some (rngD (j + 1) (i - j).toNat).reverse else none | _, _, _ => none := by first | (simp only [evI]; done) | (simp only [evI]; rfl)
theorem evI_enum {e : E} : evI G (.enum e) ρ = match ev G e ρ with | some (d, true) => (seqD (frz d)).map (enumD 0) | _ => none := by first | (simp only [evI]; done) | (simp only [evI]; rfl)
theorem evI_zip {a b : E} : evI G (.zip a b) ρ = match ev G a ρ, ev G b ρ with
    | some (x, true), some (y, true) => match seqD (frz x), seqD (frz y) with
      | some ds, some es => some (zipD ds es)
      | _, _ => none
    | _, _ => none := by first | (simp only [evI]; done) | (simp only [evI]; rfl)
theorem binG_i {op : Operator} {i : Int} {y : D} : binG G op (.int i) y = binD op (.int i) y := by cases y <;> rfl
theorem binG_l {op : Operator} {m : M} {ds : List D} {y : D} : binG G op (.lst m ds) y = binD op (.lst m ds) y := by cases y <;> rfl
theorem cmpG_i {op : CmpOp} {i : Int} {j : Int} : cmpG G op (.int i) (.int j) = cmpD op (.int i) (.int j) := by cases op <;> rfl
theorem cmpG_n {op : CmpOp} {x : D} : cmpG G op x .non = cmpD op x .non := by cases op <;> cases x <;> first | rfl | (rename_i m _ _ _; cases m <;> rfl)
theorem cmpG_tt {op : CmpOp} {xs ys : List D} : cmpG G op (.tup xs) (.tup ys) = cmpD op (.tup xs) (.tup ys) := by cases op <;> rfl
theorem cmpG_ll {op : CmpOp} {m m' : M} {xs ys : List D} : cmpG G op (.lst m xs) (.lst m' ys) = cmpD op (.lst m xs) (.lst m' ys) := by cases op <;> rfl
theorem len_l {m : M} {ds : List D} : bltG G .len [.lst m ds] = some (.int ds.length) := rfl
theorem len_t {ds : List D} : bltG G .len [.tup ds] = some (.int ds.length) := rfl
theorem int_i {i : Int} : bltG G .int [.int i] = some (.int i) := rfl
theorem int_b {b : Bool} : bltG G .int [.bl b] = some (.int (if b then 1 else 0)) := rfl
theorem tuple_l {m : M} {ds : List D} : bltG G .tuple [.lst m ds] = if fzs ds then some (.tup ds) else none := rfl
theorem tuple_t {ds : List D} : bltG G .tuple [.tup ds] = some (.tup ds) := rfl
theorem list_t {ds : List D} : bltG G .list [.tup ds] = if fzs ds then some (.lst .own ds) else none := rfl
theorem list_l {m : M} {ds : List D} : bltG G .list [.lst m ds] = if fzs ds then some (.lst .own ds) else none := rfl
/-! statements -/
theorem run1_asg {tg : Tg} {e : E} {ρ1 ρ' : Rho} {d : D} (h0 : frzL ρ (kept e) = ρ1) (h1 : ev G e ρ1 = some (d, true)) (h2 : bindT tg d ρ1 = some ρ') : run1 G (.asg tg e) ρ = some (.nx ρ') := by
  simp only [run1, h0, h1, h2, Option.map_some]
theorem run1_app {i : Nat} {e : E} {ρ1 : Rho} {d : D} {ds : List D} (h0 : frzL ρ (kept e) = ρ1) (h1 : ev G e ρ1 = some (d, true)) (h2 : ρ1[i]? = some (some (.lst .own ds))) (h3 : ds.length < most) : run1 G (.app i e) ρ = some (.nx (ρ1.set i (some (.lst .own (ds ++ [d]))))) := by
  simp only [run1, h0, h1, h2, decide_eq_true h3, if_true]
theorem run1_drop {e : E} {ρ1 : Rho} {d : D × Bool} (h0 : frzL ρ (kept e) = ρ1) (h1 : ev G e ρ1 = some d) : run1 G (.drop e) ρ = some (.nx ρ1) := by
  simp only [run1, h0, h1]
theorem run1_t {c : E} {a b : Ss} {ρ1 : Rho} (h0 : frzL ρ (peek c) = ρ1) (h1 : test G c ρ1 = some true) : run1 G (.ite c a b) ρ = runs G a ρ1 := by
  simp only [run1, h0, h1]
theorem run1_f {c : E} {a b : Ss} {ρ1 : Rho} (h0 : frzL ρ (peek c) = ρ1) (h1 : test G c ρ1 = some false) : run1 G (.ite c a b) ρ = runs G b ρ1 := by
  simp only [run1, h0, h1]
theorem run1_for {tg : Tg} {it : It} {b : Ss} {ρ1 : Rho} {items : List D} {o : Option Out} (h0 : frzL ρ (keptI it) = ρ1) (h1 : evI G it ρ1 = some items) (h2 : forD (bindT tg) (runs G b) items ρ1 = o) : run1 G (.for_ tg it b) ρ = o := by
  simp only [run1, h0, h1]
  exact h2
theorem run1_ret {e : E} {ρ1 : Rho} {d : D} (h0 : frzL ρ (kept e) = ρ1) (h1 : ev G e ρ1 = some (d, true)) : run1 G (.ret e) ρ = some (.rt d) := by
  simp only [run1, h0, h1]
theorem runs_nil : runs G .nil ρ = some (.nx ρ) := by simp only [runs]
/-- an if whose branch is run through -/
theorem runs_if {c : E} {a b : Ss} {r : Ss} {ρ1 ρ2 : Rho} {o : Option Out} (t : Bool) (h0 : frzL ρ (peek c) = ρ1) (h1 : test G c ρ1 = some t) (h2 : runs G (if t then a else b) ρ1 = some (.nx ρ2)) (h3 : runs G r ρ2 = o) : runs G (.cons (.ite c a b) r) ρ = o := by
  refine runs_nx ?_ h3
  cases t
  · rw [run1_f h0 h1]; exact h2
  · rw [run1_t h0 h1]; exact h2
theorem runs_ifr {c : E} {a b : Ss} {r : Ss} {ρ1 : Rho} {d : D} (t : Bool) (h0 : frzL ρ (peek c) = ρ1) (h1 : test G c ρ1 = some t) (h2 : runs G (if t then a else b) ρ1 = some (.rt d)) : runs G (.cons (.ite c a b) r) ρ = some (.rt d) := by
  refine runs_rt ?_
  cases t
  · rw [run1_f h0 h1]; exact h2
  · rw [run1_t h0 h1]; exact h2
theorem test_of {c : E} {b : Bool} {f : Bool} (h : ev G c ρ = some (.bl b, f)) : test G c ρ = some b := by
  simp only [test, h, truD]
end
end Z

/-! Z20: sorted(set(pairs)), xs[i].append(e). -/
namespace Z
open PySem PySem.Spec PyProof.Rows L2
open Evl (Ex ex_l ex_t ex_rd)

/-! ### pairs in order -/
def Plt (p q : Int × Int) : Prop := p.1 < q.1 ∨ (p.1 = q.1 ∧ p.2 < q.2)
theorem plt_iff {p q : Int × Int} : plt p q = true ↔ Plt p q := by
  unfold plt Plt
  simp
theorem mem_insP {p x : Int × Int} : ∀ {l : List (Int × Int)}, x ∈ insP p l ↔ x = p ∨ x ∈ l
  | [] => by simp [insP]
  | q :: r => by
    unfold insP
    split
    · simp
    · split
      · rename_i h; subst h; simp
      · rw [List.mem_cons, mem_insP, List.mem_cons]
        constructor
        · rintro (h | h | h) <;> simp [h]
        · rintro (h | h | h) <;> simp [h]
theorem mem_srtP {x : Int × Int} : ∀ {l : List (Int × Int)}, x ∈ srtP l ↔ x ∈ l
  | [] => by simp [srtP]
  | q :: r => by
    unfold srtP
    rw [mem_insP, mem_srtP, List.mem_cons]
theorem Plt.trans {p q r : Int × Int} (h : Plt p q) (k : Plt q r) : Plt p r := by
  unfold Plt at *
  omega
theorem Plt.tri {p q : Int × Int} (h : ¬ Plt p q) (n : p ≠ q) : Plt q p := by
  obtain ⟨a, b⟩ := p
  obtain ⟨c, d⟩ := q
  unfold Plt at *
  have n' : ¬ (a = c ∧ b = d) := fun ⟨x, y⟩ => n (by rw [x, y])
  dsimp only at *
  omega
theorem Plt.irr {p : Int × Int} (h : Plt p p) : False := by
  unfold Plt at h
  omega
theorem insP_sorted {p : Int × Int} : ∀ {l : List (Int × Int)}, l.Pairwise Plt → (insP p l).Pairwise Plt
  | [], _ => List.pairwise_singleton _ _
  | q :: r, h => by
    obtain ⟨h1, h2⟩ := List.pairwise_cons.mp h
    unfold insP
    split
    · rename_i c
      have c' := plt_iff.mp c
      refine List.pairwise_cons.mpr ⟨fun x hx => ?_, h⟩
      rcases List.mem_cons.mp hx with rfl | hx
      · exact c'
      · exact c'.trans (h1 x hx)
    · rename_i c
      split
      · exact h
      · rename_i n
        refine List.pairwise_cons.mpr ⟨fun x hx => ?_, insP_sorted h2⟩
        rcases mem_insP.mp hx with rfl | hx
        · exact Plt.tri (fun z => c (plt_iff.mpr z)) n
        · exact h1 x hx
theorem srtP_sorted : ∀ l : List (Int × Int), (srtP l).Pairwise Plt
  | [] => .nil
  | p :: r => insP_sorted (srtP_sorted r)
theorem same_pairs : ∀ {a b : List (Int × Int)}, a.Pairwise Plt → b.Pairwise Plt → (∀ x, x ∈ a ↔ x ∈ b) → a = b
  | [], [], _, _, _ => rfl
  | [], y :: b, _, _, h => by have := (h y).mpr List.mem_cons_self; cases this
  | x :: a, [], _, _, h => by have := (h x).mp List.mem_cons_self; cases this
  | x :: a, y :: b, ha, hb, h => by
    obtain ⟨a1, a2⟩ := List.pairwise_cons.mp ha
    obtain ⟨b1, b2⟩ := List.pairwise_cons.mp hb
    have e : x = y := by
      rcases List.mem_cons.mp ((h x).mp List.mem_cons_self) with e | m
      · exact e
      · rcases List.mem_cons.mp ((h y).mpr List.mem_cons_self) with e | m2
        · exact e.symm
        · exact absurd ((a1 y m2).trans (b1 x m)) Plt.irr
    subst e
    rw [same_pairs a2 b2 fun z => ⟨fun m => ?_, fun m => ?_⟩]
    · rcases List.mem_cons.mp ((h z).mp (List.mem_cons_of_mem _ m)) with e | m2
      · subst e; exact absurd (a1 z m) Plt.irr
      · exact m2
    · rcases List.mem_cons.mp ((h z).mpr (List.mem_cons_of_mem _ m)) with e | m2
      · subst e; exact absurd (b1 z m) Plt.irr
      · exact m2
theorem pairsOf_some : ∀ {ds : List D} {ps : List (Int × Int)}, pairsOf ds = some ps → ds = ps.map dP
  | [], _, h => by cases h; rfl
  | d :: r, ps, h => by
    unfold pairsOf at h
    split at h
    · rename_i e; cases e
    · rename_i a b r' e
      cases e
      cases hr : pairsOf r with
      | none => rw [hr] at h; cases h
      | some qs =>
        rw [hr] at h
        cases h
        rw [pairsOf_some hr]
        rfl
    · cases h
theorem pairsOf_map : ∀ ps : List (Int × Int), pairsOf (ps.map dP) = some ps
  | [] => rfl
  | (a, b) :: r => by
    show (pairsOf (r.map dP)).map ((a, b) :: ·) = _
    rw [pairsOf_map r]
    rfl
section
variable {T : Tab} {Hf H : Hp}
def two2l (p : Int × Int) : List Int := [p.1, p.2]
theorem repS_pairs : ∀ {ps : List (Int × Int)} {xs : List V} {F : List Addr}, repS T Hf H (ps.map dP) xs F → ∃ ks : List (Addr × List Int), xs = ks.map (fun p => V.ref p.1) ∧ ks.map (·.2) = ps.map two2l ∧ ∀ q ∈ ks, SqT T.K Hf q.1 (q.2.map V.int)
  | [], _, _, h => ⟨[], h.1, rfl, fun _ h => by cases h⟩
  | p :: ps, _, _, ⟨v, vs, F1, F2, e, f, r, q⟩ => by
    obtain ⟨ks, h1, h2, h3⟩ := repS_pairs q
    obtain ⟨a, xs, e1, e2, e3, e4⟩ := r
    have e5 := repS_ints (is := [p.1, p.2]) e4
    subst e5
    refine ⟨(a, [p.1, p.2]) :: ks, by rw [e, e1, h1]; rfl, by rw [List.map_cons, h2]; rfl, fun z hz => ?_⟩
    rcases List.mem_cons.mp hz with rfl | hz
    · exact e3
    · exact h3 z hz
theorem pairs_repS : ∀ {ps : List (Int × Int)} {ks : List (Addr × List Int)}, ks.map (·.2) = ps.map two2l → (∀ q ∈ ks, SqT T.K Hf q.1 (q.2.map V.int)) → repS T Hf H (ps.map dP) (ks.map fun p => V.ref p.1) []
  | [], [], _, _ => ⟨rfl, rfl⟩
  | [], _ :: _, h, _ => by cases h
  | _ :: _, [], h, _ => by cases h
  | p :: ps, (a, l) :: ks, h, k => by
    rw [List.map_cons, List.map_cons] at h
    injection h with h1 h2
    dsimp only at h1
    subst h1
    exact ⟨.ref a, _, [], [], rfl, rfl, ⟨a, _, rfl, rfl, k (a, two2l p) List.mem_cons_self, ints_repS [p.1, p.2]⟩, pairs_repS h2 fun q hq => k q (List.mem_cons_of_mem _ hq)⟩
theorem ex_bound : ∀ ps : List (Int × Int), ∃ B : Int, ∀ p ∈ ps, p.1 < B ∧ p.2 < B
  | [] => ⟨0, fun _ h => by cases h⟩
  | p :: ps => by
    obtain ⟨B, h⟩ := ex_bound ps
    refine ⟨max B (max (p.1 + 1) (p.2 + 1)), fun q hq => ?_⟩
    rcases List.mem_cons.mp hq with rfl | hq
    · omega
    · have := h q hq
      omega
end
section
variable {L : Law} {N : List Str} {sc : Sc} {k : Nat}
theorem sem_setsort {e : Expr} {e' : E} {p0 p1 q pos : Pos} (h1 : (gdB sc "sorted" && gdB sc "set") = true) (m1 : L.mg "sorted" = none) (m2 : L.mg "set" = none)
    (s1 : ∀ env, starEach [.Call (.Name "set" p1) [e] [] q] env = (false, eval (.Call (.Name "set" p1) [e] [] q) env) :: starEach [] env) (s2 : ∀ env, starEach [e] env = (false, eval e env) :: starEach [] env)
    (he : SemE L N sc k e e') (hh : sc.hot = false := by rfl) : SemE L N sc k (.Call (.Name "sorted" p0) [.Call (.Name "set" p1) [e] [] q] [] pos) (.blt .setsort (.cons e' .nil)) := by
  rw [Bool.and_eq_true] at h1
  obtain ⟨a1, d1, n1⟩ := gdB_ h1.1
  obtain ⟨a2, d2, n2⟩ := gdB_ h1.2
  intro X c ρ d fr h Hf0 H0 Hf H σ S Q p
  simp only [ev, evs] at h
  split at h
  · rename_i ds0 f0 e0
    split at e0
    · rename_i x f ds1 g1 e1 e2
      cases e2
      cases e0
      cases hd : bltG L.G .setsort [x] with
      | none => rw [hd] at h; cases h
      | some d' =>
        rw [hd] at h
        cases h
        have hd2 : setsortD x = some d := by rw [bltG_ne (by decide)] at hd; exact hd
        unfold setsortD at hd2
        split at hd2
        · rename_i m ds
          cases hp : pairsOf ds with
          | none => rw [hp] at hd2; cases hd2
          | some ps =>
            rw [hp] at hd2
            have hd3 : (if decide (ps.length < 64) && ps.all (fun p => decide (0 ≤ p.1) && decide (0 ≤ p.2)) then some (D.lst .own ((srtP ps).map dP)) else none) = some d := hd2
            split at hd3
            · rename_i hc
              cases hd3
              simp only [Bool.and_eq_true, decide_eq_true_eq, List.all_eq_true] at hc
              obtain ⟨c1, c2⟩ := hc
              have hds := pairsOf_some hp
              subst hds
              refine by_pe (pe_callB (cr_sortedT (c.calm hh)) (show X.env.scope.names.lookup ("sorted" : Str) = some NameKind.globalImplicit by rw [c.hsc]; exact a1) (by rw [c.hmg]; exact m1) (by decide +kernel)
                (pa_cons (pe_callTy (cr_setOfT (c.calm hh) c.units) (show X.env.scope.names.lookup ("set" : Str) = some NameKind.globalImplicit by rw [c.hsc]; exact a2) (by rw [c.hmg]; exact m2) (by decide +kernel) (pa_cons (pe_ e) pa_nil (s2 _)) n2 d2 (s2 _) rfl) pa_nil (s1 _)) n1 d1 (s1 _) rfl) ?_
              refine he X c ρ _ f e1 Hf0 H0 Hf H σ S _ fun v H1 Hf1 F g r n => ?_
              obtain ⟨a, xs, G, rfl, hq, rs⟩ := rep_lst g.s r
              obtain ⟨ks, k1, k2, k3⟩ := repS_pairs rs
              subst k1
              have kl : ks.length = ps.length := by
                have := congrArg List.length k2
                simpa using this
              have shape : ∀ q ∈ ks, ∃ p ∈ ps, q.2 = two2l p := fun q hq => by
                have : q.2 ∈ ps.map two2l := by rw [← k2]; exact List.mem_map.mpr ⟨q, hq, rfl⟩
                obtain ⟨p, h1, h2⟩ := List.mem_map.mp this
                exact ⟨p, h1, h2.symm⟩
              refine ⟨a, ks, rfl, c.hK ▸ hq, fun q hq => c.hK ▸ ex_t g.s (k3 q hq), by omega, fun st Ls hst hsub hall => ?_⟩
              obtain ⟨B, hB⟩ := ex_bound ps
              have up1 : Ex H1 (upd H1 st (SetTO X.prog X.w st Ls)) := Evl.Ex.new hst
              have bd : ∀ q ∈ Ls, q.2.length = 2 ∧ TS.Bd B q.2 := fun q hq => by
                obtain ⟨p, h1, h2⟩ := shape q (hsub q hq)
                rw [h2]
                refine ⟨rfl, fun z hz => ?_⟩
                have b1 := hB p h1
                have b2 := c2 p h1
                have hz' : z = p.1 ∨ z = p.2 := by simpa [two2l] using hz
                rcases hz' with rfl | rfl
                · exact ⟨b2.1, b1.1⟩
                · exact ⟨b2.2, b1.2⟩
              refine ⟨st, Ls, 2, B, rfl, upd_same, fun q hq => c.hK ▸ ex_t up1 (ex_t g.s (k3 q (hsub q hq))), by decide, bd, fun L' pa perm nd few pw hpa => ?_⟩
              have sub' : ∀ q ∈ L', q ∈ ks := fun q hq => hsub q (perm.mem_iff.mp hq)
              -- the pairs of what came out
              have key : L'.map (·.2) = (srtP ps).map two2l := by
                have e1 : (L'.map fun q => ((q.2.getD 0 0, q.2.getD 1 0) : Int × Int)) = srtP ps := by
                  refine same_pairs ?_ (srtP_sorted ps) fun x => ?_
                  · rw [List.pairwise_map]
                    have nd' : L'.Pairwise (fun q r => q.2 ≠ r.2) := List.pairwise_map.mp nd
                    refine List.Pairwise.imp_of_mem (fun {q r} hq hr h => ?_) (pw.and nd')
                    obtain ⟨p1, m1, e1⟩ := shape q (sub' q hq)
                    obtain ⟨p2, m2, e2⟩ := shape r (sub' r hr)
                    obtain ⟨_, b1⟩ := bd q (perm.mem_iff.mp hq)
                    obtain ⟨_, b2⟩ := bd r (perm.mem_iff.mp hr)
                    obtain ⟨h3, h4⟩ := h
                    rw [e1] at h3 h4 b1
                    rw [e2] at h3 h4 b2
                    have h5 := L2.code_lex b1 b2 h3
                    rw [e1, e2]
                    show p1.1 < p2.1 ∨ (p1.1 = p2.1 ∧ p1.2 < p2.2)
                    rcases h5 with h5 | ⟨h5, h6⟩
                    · exact .inl h5
                    · refine .inr ⟨h5, ?_⟩
                      rcases Int.lt_or_eq_of_le h6 with h7 | h7
                      · exact h7
                      · exact absurd (by unfold two2l; rw [h5, h7]) h4
                  · rw [mem_srtP, List.mem_map]
                    constructor
                    · rintro ⟨q, hq, rfl⟩
                      obtain ⟨p1, m1, e1⟩ := shape q (sub' q hq)
                      rw [e1]
                      exact m1
                    · intro hx
                      have : two2l x ∈ ks.map (·.2) := by rw [k2]; exact List.mem_map.mpr ⟨x, hx, rfl⟩
                      obtain ⟨q, hq, e3⟩ := List.mem_map.mp this
                      obtain ⟨q2, hq2, e4⟩ := List.mem_map.mp (hall q hq)
                      refine ⟨q2, perm.mem_iff.mpr hq2, ?_⟩
                      rw [e4, e3]
                      rfl
                rw [← e1, List.map_map]
                refine List.map_congr_left fun q hq => ?_
                obtain ⟨p1, m1, e2⟩ := shape q (sub' q hq)
                show q.2 = two2l (q.2.getD 0 0, q.2.getD 1 0)
                rw [e2]
                rfl
              have pn : H1 pa = none := none_back up1 hpa
              have gA : Gr Hf1 H1 Hf1 (upd H1 st (SetTO X.prog X.w st Ls)) := Gr.push g.s hst
              have gB : Gr Hf1 (upd H1 st (SetTO X.prog X.w st Ls)) Hf1 (upd (upd H1 st (SetTO X.prog X.w st Ls)) pa (.lst (L'.map fun q => V.ref q.1))) := Gr.push gA.s hpa
              refine p _ _ Hf1 [pa] (g.trans (gA.trans gB)) ⟨pa, _, [], rfl, rfl, upd_same, pairs_repS key fun q hq => k3 q (sub' q hq)⟩ fun _ => ?_
              exact New.upd (none_back g.e pn) (hf_none g.s pn)
            · cases hd3
        · cases hd2
    · cases e0
  · cases h
end
end Z

/-! Z21: xs[i].append(e). -/
namespace Z
open PySem PySem.Spec PyProof.Rows L2
open Evl (Ex ex_l ex_t ex_rd)
section
variable {T : Tab} {Hf H : Hp}
theorem repS_app2 {v : V} {d : D} (rd : rep T Hf H d v []) : ∀ {ds : List D} {xs : List V} {G : List Addr} {j : Nat} {es : List D}, repS T Hf H ds xs G → G.Nodup → ds[j]? = some (.lst .own es) →
    ∃ b ys, xs[j]? = some (.ref b) ∧ H b = some (.lst ys) ∧ b ∈ G ∧ ys.length = es.length ∧ repS T Hf (upd H b (.lst (ys ++ [v]))) (ds.set j (.lst .own (es ++ [d]))) xs G
  | [], _, _, j, es, _, _, h => by simp at h
  | d0 :: ds, _, _, 0, es, ⟨v0, vs, F1, F2, e, f, r, q⟩, nd, h => by
    subst e; subst f
    cases (Option.some.inj h : d0 = .lst .own es)
    obtain ⟨b, ys, G', rfl, rfl, hb, rs⟩ := r
    obtain ⟨n1, n2⟩ := List.nodup_cons.mp nd
    have nb : ∀ a ∈ G' ++ F2, a ≠ b := fun a ha z => n1 (z ▸ ha)
    have keep : ∀ (F : List Addr), (∀ a ∈ F, a ∈ G' ++ F2) → ∀ a ∈ F, ∀ o, H a = some o → upd H b (.lst (ys ++ [v])) a = some o := fun F hF a ha o q => by rw [upd_ne (nb a (hF a ha))]; exact q
    refine ⟨b, ys, rfl, hb, List.mem_cons_self, repS_len rs, .ref b, vs, b :: G', F2, rfl, rfl, ⟨b, _, G', rfl, rfl, upd_same, ?_⟩, repS_mono (fun _ _ q => q) _ _ _ (keep F2 fun a ha => List.mem_append_right _ ha) q⟩
    have r1 := repS_append (repS_mono (H' := upd H b (.lst (ys ++ [v]))) (fun _ _ q => q) _ _ _ (keep G' fun a ha => List.mem_append_left _ ha) rs)
      (show repS T Hf (upd H b (.lst (ys ++ [v]))) [d] [v] [] from ⟨v, [], [], [], rfl, rfl, rep_mono (fun _ _ q => q) _ _ _ (fun a ha => by cases ha) rd, rfl, rfl⟩)
    rw [List.append_nil] at r1
    exact r1
  | d0 :: ds, _, _, j + 1, es, ⟨v0, vs, F1, F2, e, f, r, q⟩, nd, h => by
    subst e; subst f
    obtain ⟨n1, n2, n3⟩ := List.nodup_append.mp nd
    obtain ⟨b, ys, h1, h2, h3, h4, h5⟩ := repS_app2 rd (j := j) q n2 h
    exact ⟨b, ys, h1, h2, List.mem_append_right _ h3, h4, v0, vs, F1, F2, rfl, rfl, rep_mono (fun _ _ q => q) _ _ _ (fun a ha o q => by rw [upd_ne (n3 a ha b h3)]; exact q) r, h5⟩
end
section
variable {L : Law} {N : List Str} {sc : Sc} {k : Nat}
theorem semS_app2 {i : Nat} {x : Str} {ix e : Expr} {ix' e' : E} {p1 p2 apos cpos pos : Pos} (hN : N[i]? = some x) (hv : Vis sc.toScope x) (hd : (x == ("__debug__" : Str)) = false) (hcd : (x == ("__classdict__" : Str)) = false)
    (hix : PlainIx ix) (hline : (apos.endLine == cpos.line) = true) (hs : ∀ env, starEach [e] env = [(false, eval e env)])
    (hb : ∀ env, attributeBase (.Subscript (.Name x p1) ix p2) "append" env (eval (.Subscript (.Name x p1) ix p2) env) = eval (.Subscript (.Name x p1) ix p2) env)
    (hi : SemE L N sc k ix ix') (he : SemE L N sc k e e') : SemS L N sc k (.Expr (.Call (.Attribute (.Subscript (.Name x p1) ix p2) "append" apos) [e] [] cpos) pos) (.app2 i ix' e') := by
  intro X c ρ o h Hf0 H0 Hf H σ S D p
  simp only [run1] at h
  split at h
  · rename_i j f1 d hd1 hd2
    split at h
    · rename_i ds hds
      split at h
      · rename_i es hes
        split at h
        · rename_i hc
          cases h
          simp only [Bool.and_eq_true, decide_eq_true_eq] at hc
          obtain ⟨⟨c1, c2⟩, c3⟩ := hc
          obtain ⟨Hf1, e1, S1⟩ := S.frzL (kept e' ++ peek ix')
          refine by_ps (ps_expr (pe_bm PySem.F.plainAttrs_list PySem.F.slot_list_append PySem.F.type_list_append mt_append (pe_ix ix_seq (pe_var (i := i) (by rw [c.hN]; exact hN) (by rw [c.hsc]; exact hv) hd hcd) (pe_ ix) hix) (pa_cons (pe_ e) pa_nil (by rw [hs]; rfl)) (hb _) (by rw [hs]; rfl) hline (by rw [hs]; rfl) rfl) rfl) ?_
          obtain ⟨w0, G0, hσ0, hr0, _, _, _, _⟩ := S1.mut (Gr.refl S1.sub) hds (New.nil (H := H) (Hf' := Hf1))
          obtain ⟨a, xs0, G1, rfl, eG0, hxs0, rs0⟩ := hr0
          refine ⟨.ref a, hσ0, hi X c _ (.int j) f1 hd1 Hf0 H0 Hf1 H σ S1 _ fun y H1 Hf2 F1 g1 r1 _ => ?_⟩
          obtain ⟨rfl, _⟩ := r1
          obtain ⟨w1, Ga, hσ1, hr1, _, _, _, _⟩ := S1.mut g1 hds (New.nil (H := H) (Hf' := Hf2))
          rw [hσ0] at hσ1
          cases hσ1
          obtain ⟨a', xs1, G2, ea, eG1, hxs1, rs1⟩ := hr1
          cases ea
          obtain ⟨vb, Gb, hb1, hb2, _⟩ := repS_get rs1 hes
          obtain ⟨b, ys1, Gc, rfl, _, hb3, _⟩ := hb2
          have jl : j.toNat < xs1.length := (List.getElem?_eq_some_iff.mp hb1).1
          have hat : atI xs1 j = some (.ref b) := by
            unfold atI ixN
            have j2 : j < (xs1.length : Int) := by omega
            rw [if_pos c2, if_pos j2]
            exact hb1
          refine .inl ⟨a, xs1, j, .ref b, rfl, rfl, .of hxs1, hat, .inl ⟨rfl, ys1, .of hb3⟩, he X c _ d true hd2 Hf0 H0 Hf2 H1 σ (S1.grow g1) _ fun v H2 Hf3 F g2 r n => ?_⟩
          have eF := fz_nil r c1
          subst eF
          obtain ⟨w, G, hσ, hr, nG, fG, dG, up⟩ := S1.mut (g1.trans g2) hds (New.nil (H := H) (Hf' := Hf3))
          rw [hσ0] at hσ
          cases hσ
          obtain ⟨a', xs, G3, ea, eG, hxs, rs⟩ := hr
          cases ea
          subst eG
          have ex : xs = xs1 := by
            have := g2.e a _ hxs1
            rw [hxs] at this
            injection this with this
            injection this
          subst ex
          obtain ⟨b', ys, h1, h2, h3, h4, h5⟩ := repS_app2 r rs (List.nodup_cons.mp nG).2 hes
          rw [hb1] at h1
          cases h1
          refine ⟨b, ys, v, rfl, rfl, h2, Evl.sz_lt (by rw [h4]; exact c3), p _ Hf3 _ (e1.trans (g1.trans g2).f) (up b (.lst (ys ++ [v])) (.lst .own (ds.set j.toNat (.lst .own (es ++ [d])))) (a :: G3) (List.mem_cons_of_mem _ h3) ?_ nG fun z hz => .inl hz)⟩
          have nab : a ≠ b := fun z => (List.nodup_cons.mp nG).1 (z ▸ h3)
          exact ⟨a, xs, G3, rfl, rfl, by rw [upd_ne nab]; exact hxs, h5⟩
        · cases h
      · cases h
    · cases h
  · cases h
theorem z_app2 {i : Nat} {x : Str} {ix e : Expr} {ix' e' : E} {p1 p2 apos cpos pos : Pos} (h : visB N sc i x = true) (hix : PlainIx ix) (hline : (apos.endLine == cpos.line) = true) (hs : ∀ env, starEach [e] env = [(false, eval e env)])
    (hb : ∀ env, attributeBase (.Subscript (.Name x p1) ix p2) "append" env (eval (.Subscript (.Name x p1) ix p2) env) = eval (.Subscript (.Name x p1) ix p2) env)
    (hi : SemE L N sc k ix ix') (he : SemE L N sc k e e') : SemS L N sc k (.Expr (.Call (.Attribute (.Subscript (.Name x p1) ix p2) "append" apos) [e] [] cpos) pos) (.app2 i ix' e') := let ⟨a, b, c, d⟩ := visB_ h; semS_app2 a b c d hix hline hs hb hi he
end
end Z

/-! Z22: parameters that are left out. -/
namespace Z
open PySem PySem.Spec PyProof.Rows L2
section
variable {K : PySem.W.Frag}
/-- what stands for parameters that aren't written -/
def DflOk (K : PySem.W.Frag) (dd : List D) (its : List Value) : Prop := ∃ dvs, Vals dvs its ∧ ∀ T : Tab, T.K = K → ∀ Hf H, repS T Hf H dd dvs []
theorem dfl_nil : DflOk K [] [] := ⟨[], .nil, fun _ _ _ _ => ⟨rfl, rfl⟩⟩
theorem dfl_cons {d : D} {v : Value} {dd : List D} {its : List Value} (h : DflOk K [d] [v]) (r : DflOk K dd its) : DflOk K (d :: dd) (v :: its) := by
  obtain ⟨dvs, h1, h2⟩ := h
  obtain ⟨evs, r1, r2⟩ := r
  cases h1 with
  | cons q t =>
    cases t
    refine ⟨_ :: evs, .cons q r1, fun T e Hf H => ?_⟩
    exact repS_append (h2 T e Hf H) (r2 T e Hf H)
theorem dfl_unit {e : Addr} {o : Obj} {n : Nat} (h : K.lookup e = some o) (hc : o.cls = .type "tuple") (hd : o.data = .seq #[] n) : DflOk K [.tup []] [.ref e] :=
  ⟨[.ref e], .cons rfl .nil, fun T eT Hf H => ⟨.ref e, [], [], [], rfl, rfl, ⟨e, [], rfl, rfl, .inr ⟨o, #[], n, by rw [eT]; exact h, hc, hd, by show 0 ≤ sizeLine; omega, .nil⟩, rfl, rfl⟩, rfl, rfl⟩⟩
theorem dfl_none : DflOk K [.non] [.none] := ⟨[.non], .cons rfl .nil, fun T _ Hf H => ⟨.non, [], [], [], rfl, rfl, ⟨rfl, rfl⟩, rfl, rfl⟩⟩
theorem dfl_int {i : Int} {t : Tok} : DflOk K [.int i] [.int i t] := ⟨[.int i], .cons ⟨t, rfl⟩ .nil, fun T _ Hf H => ⟨.int i, [], [], [], rfl, rfl, ⟨rfl, rfl⟩, rfl, rfl⟩⟩
theorem dfl_bl {b : Bool} : DflOk K [.bl b] [.bool b] := ⟨[.bl b], .cons rfl .nil, fun T _ Hf H => ⟨.bl b, [], [], [], rfl, rfl, ⟨rfl, rfl⟩, rfl, rfl⟩⟩
/-- a def that may be called with some parameters left out -/
structure CalD (L : Law) (k' : Nat) (x : Str) (f : Nat) (dd : List D) : Prop where
  ex : ∃ dvs, C8.Cal L.P L.w L.T.K L.mg L.base k' x (spD L.T (L.G.call f)) dvs ∧ ∀ Hf H, repS L.T Hf H dd dvs []
theorem CalD.of {L : Law} {k' : Nat} {x : Str} {f : Nat} {dd : List D} {st : Stmt} {ps : List Str} {a : Addr} {fd : FuncData} (A : At L.T.K L.mg x st ps a fd) (B : ∃ ds, Binds L.T.K fd ps ds ∧ DflOk L.T.K dd ds)
    (h : FnOk L.P L.w L.T.K L.mg L.base CX0 k' a fd ps (spD L.T (L.G.call f))) : CalD L k' x f dd := by
  obtain ⟨ds, b, dvs, v, r⟩ := B
  exact ⟨dvs, ⟨a, fd, ps, ds, h, A.mgf, A.kp, b, v⟩, fun Hf H => r L.T rfl Hf H⟩
theorem binds_d {x qual : Str} {st : Stmt} {ps : List Str} {T : Addr} {o : Obj} {its : List Value} {n : Nat} {kV doc pm : Value} {an : Option Addr} {cdv ct : Value} (lT : K.lookup T = some o) (oT : o.data = .seq its.toArray n) (ds : List Value)
    (h : ∀ us : List Value, (us ++ ds).length = ps.length → ∃ k, bindArgs (PySem.W.fnOf x qual (C8.fnArgs st) (C8.fnBody st) (C8.fnScope st) (.ref T) kV doc pm an cdv ct) ⟨us, []⟩ = seqItems? (.ref T) >>= k ∧ k (some its.toArray) = pure (ps.zip (us ++ ds))) :
    Binds K (PySem.W.fnOf x qual (C8.fnArgs st) (C8.fnBody st) (C8.fnScope st) (.ref T) kV doc pm an cdv ct) ps ds := fun s us X hlen => by
  obtain ⟨k, e1, e2⟩ := h us hlen
  refine BindsTo.of_looks fun M => ?_
  rw [e1]
  exact looks_items X lT oT (.of_pure e2)
end
section
variable {L : Law} {N : List Str} {sc : Sc} {k : Nat}
theorem z_callD {f k' : Nat} {x : Str} {e : Expr} {es : List Expr} {es' : Es} {dd : List D} {p0 pos : Pos} (C : CalD L k' x f dd) (hk : k' ≤ k) (h : gdB sc x = true)
    (hs : ∀ env, starEach (e :: es) env = (false, eval e env) :: starEach es env) (hpl : ∀ pos env, (backTo pos (starEach es env)).any (·.1) = false) (ha : SemA L N sc k (e :: es) es') : SemE L N sc k (.Call (.Name x p0) (e :: es) [] pos) (.call f es' dd) :=
  let ⟨a, d, _⟩ := gdB_ h
  let ⟨_, C', r⟩ := C.ex
  sem_call C' r hk a d hs hpl ha
theorem sem_keep {e : Expr} {e' : E} (h : SemE L N sc k e e') : SemE L N sc k e (.keep e') := fun X c ρ d fr hh => h X c ρ d fr (by simp only [ev] at hh; exact hh)
end
end Z

/-! Z23: computing: while, items, fields, objects. -/
namespace Z
open PySem L2
section
variable {G : Gd} {ρ : Rho}
theorem while_inv {c : Rho → Option Bool} {body : Rho → Option Out} (J : Nat → Rho → Prop) (F : Rho → Prop) (hs : ∀ n ρ, J n ρ → (c ρ = some false ∧ F ρ) ∨ (c ρ = some true ∧ ∃ m ρ', m < n ∧ (body ρ = some (.nx ρ') ∨ body ρ = some (.ct ρ')) ∧ J m ρ')) :
    ∀ (n N : Nat) (ρ : Rho), J n ρ → n < N → ∃ ρ', whileD c body N ρ = some (.nx ρ') ∧ F ρ'
  | n, 0, ρ, _, h => absurd h (Nat.not_lt_zero _)
  | n, N + 1, ρ, hj, h => by
    unfold whileD
    rcases hs n ρ hj with ⟨h1, h2⟩ | ⟨h1, m, ρ', h2, h3, h4⟩
    · exact ⟨ρ, by rw [h1], h2⟩
    · obtain ⟨ρ2, h5, h6⟩ := while_inv J F hs m N ρ' h4 (by omega)
      refine ⟨ρ2, ?_, h6⟩
      rw [h1]
      rcases h3 with h3 | h3 <;> rw [h3] <;> exact h5
theorem run1_while {c : E} {b : Ss} {ρ1 : Rho} {o : Option Out} (h0 : frzL ρ (peek c) = ρ1) (h1 : whileD (test G c) (runs G b) G.wf ρ1 = o) : run1 G (.while_ c b) ρ = o := by
  subst h0
  simp only [run1]
  exact h1
theorem run1_fld {ρ1 : Rho} {i k c : Nat} {e : E} {d : D} {a : Addr} {ks ks' : List Nat} {ds ds' : List D} (h0 : frzL ρ (kept e) = ρ1) (h1 : ev G e ρ1 = some (d, true)) (h2 : ρ1[i]? = some (some (.obj (some a) c ks ds))) (h3 : putK k (frz d) ks ds = some (ks', ds')) (h4 : ds.length < 1000) : run1 G (.fld i k e) ρ = some (.nx (ρ1.set i (some (.obj (some a) c ks' ds')))) := by
  subst h0
  simp only [run1, h1, h2, h3, decide_eq_true h4, if_true]
theorem run1_sub {ρ1 : Rho} {i : Nat} {ix e : E} {d : D} {j : Int} {f : Bool} {ds : List D} (h0 : frzL ρ (kept e ++ peek ix) = ρ1) (h1 : ev G e ρ1 = some (d, true)) (h2 : ev G ix ρ1 = some (.int j, f)) (h3 : ρ1[i]? = some (some (.lst .own ds))) (h4 : fzs ds = true) (h5 : d.fz = true) (h6 : 0 ≤ j) (h7 : j < ds.length) :
    run1 G (.sub i ix e) ρ = some (.nx (ρ1.set i (some (.lst .own (ds.set j.toNat d))))) := by
  subst h0
  simp only [run1, h1, h2, h3, h4, h5, decide_eq_true h6, decide_eq_true h7, Bool.and_true, if_true]
theorem run1_app2 {ρ1 : Rho} {i : Nat} {ix e : E} {d : D} {j : Int} {f : Bool} {ds es : List D} (h0 : frzL ρ (kept e ++ peek ix) = ρ1) (h1 : ev G e ρ1 = some (d, true)) (h2 : ev G ix ρ1 = some (.int j, f)) (h3 : ρ1[i]? = some (some (.lst .own ds))) (h4 : ds[j.toNat]? = some (.lst .own es)) (h5 : d.fz = true) (h6 : 0 ≤ j) (h7 : es.length < most) :
    run1 G (.app2 i ix e) ρ = some (.nx (ρ1.set i (some (.lst .own (ds.set j.toNat (.lst .own (es ++ [d]))))))) := by
  subst h0
  simp only [run1, h1, h2, h3, h4, h5, decide_eq_true h6, decide_eq_true h7, Bool.and_true, if_true]
theorem init_of {c : Nat} {F : Z.Def} {a : Addr} {ds fs : List D} {ks : List Nat} {ρ : Rho} (hl : ds.length + 1 = F.ps) (h : runs G F.body (startR F.n (D.obj (some a) c [] [] :: ds)) = some (.nx ρ)) (h0 : ρ[0]? = some (some (.obj (some a) c ks fs))) : initD G c F a ds = some (.obj none c ks fs) := by
  unfold initD
  rw [if_pos hl, h]
  simp only [h0, and_self, if_true]
end
end Z

/-! Z26: constants of the module, keywords. -/
namespace Z
open PySem L2
section
variable {L : Law} {N : List Str} {sc : Sc} {k : Nat}
/-- a tuple of ints, a constant of the module -/
structure GT (K : PySem.W.Frag) (mg : Str → Option Value) (x : Str) (is : List Int) : Prop where
  ex : ∃ a o its n, mg x = some (.ref a) ∧ K.lookup a = some o ∧ o.cls = .type "tuple" ∧ o.data = .seq its n ∧ its.size ≤ sizeLine ∧ Vals (is.map V.int) its.toList
def litE : List Int → Es
  | [] => .nil
  | i :: r => .cons (.con (.int i)) (litE r)
theorem litE_ev {G : Gd} {ρ : Rho} : ∀ is : List Int, evs G (litE is) ρ = some (is.map D.int, true)
  | [] => by simp only [litE, evs]; rfl
  | i :: r => by simp only [litE, evs, litE_ev r, ev, D.scal, if_true, List.map_cons, Bool.and_self]
theorem sem_globT {x : Str} {is : List Int} {pos : Pos} (g : GT L.T.K L.mg x is) (h : gdB sc x = true) : SemE L N sc k (.Name x pos) (.tup (litE is)) := by
  intro X c ρ d fr hh Hf0 H0 Hf H σ S Q p
  obtain ⟨a, o, its, n, e1, e2, e3, e4, e5, e6⟩ := g.ex
  obtain ⟨h1, h2, _⟩ := gdB_ h
  simp only [ev, litE_ev] at hh
  split at hh
  · cases hh
    refine by_pe (pe_glob (v := .ref a) (c.gl h1) (by rw [c.hmg]; exact e1) rfl h2) ?_
    show Q (.ref a) H
    rw [frzS_ints] at p
    exact p (.ref a) H Hf [] (Gr.refl S.sub) ⟨a, is.map V.int, rfl, rfl, .inr ⟨o, its, n, e2, e3, e4, e5, e6⟩, ints_repS is⟩ fun _ => New.nil
  · cases hh
theorem gt_mk {K : PySem.W.Frag} {mg : Str → Option Value} {x : Str} {is : List Int} {a : Addr} {o : Obj} {its : Array Value} {n : Nat} (h : mg x = some (.ref a)) (e : K.lookup a = some o) (e3 : o.cls = .type "tuple") (e4 : o.data = .seq its n) (e5 : decide (its.size ≤ sizeLine) = true) (e6 : Vals (is.map V.int) its.toList) : GT K mg x is := ⟨a, o, its, n, h, e, e3, e4, of_decide_eq_true e5, e6⟩
theorem vals_int {i : Int} {t : Tok} {is : List Int} {vs : List Value} (h : Vals (is.map V.int) vs) : Vals ((i :: is).map V.int) (.int i t :: vs) := .cons ⟨t, rfl⟩ h
/-! ### keywords -/
def tK (X : Cx) (kws : List Keyword) : TA := fun σ H Q => ∀ pos pins s, Inv X pins σ H s → wpAny (model X.prog X.w) X.A (evalAll ((backToKw pos (keywordEach kws X.env)).map (·.2))) (AP X pins σ Q) X.xe s
theorem pk_ {X : Cx} (kws : List Keyword) : PK X kws (tK X kws) := ⟨fun pos pins s _ _ _ I h => h pos pins s I⟩
theorem by_pk {X : Cx} {kws : List Keyword} {t : TA} {σ : L2.St} {H : Hp} {Q : List V → Hp → Prop} (p : PK X kws t) (h : t σ H Q) : tK X kws σ H Q := fun pos pins s I => p.run pos pins s σ H Q I h
def SemK (L : Law) (N : List Str) (sc : Sc) (k : Nat) (kws : List Keyword) (es' : Es) : Prop :=
  ∀ X, Cok L N sc k X → ∀ ρ ds fr, evs L.G es' ρ = some (ds, fr) → ∀ Hf0 H0 Hf H σ, StOk L.T Hf0 H0 Hf H ρ σ → ∀ Q, PostA L.T Hf H ds fr Q → tK X kws σ H Q
theorem semK_nil : SemK L N sc k [] .nil := by
  intro X c ρ ds fr h Hf0 H0 Hf H σ S Q p
  cases h
  exact by_pk pk_nil (p [] H Hf [] (.refl S.sub) ⟨rfl, rfl⟩ fun _ => New.nil)
theorem semK_cons {nm : Option Str} {kpos : Pos} {e : Expr} {es : List Keyword} {e' : E} {es' : Es} (he : SemE L N sc k e e') (hr : SemK L N sc k es es') : SemK L N sc k (⟨nm, e, kpos⟩ :: es) (.cons e' es') := by
  intro X c ρ ds fr h Hf0 H0 Hf H σ S Q p
  simp only [evs] at h
  split at h
  · rename_i d f ds' g e1 e2
    cases h
    refine by_pk (pk_cons (pe_ e) (pk_ es)) (he X c ρ d f e1 Hf0 H0 Hf H σ S _ fun v H1 Hf1 F1 g1 r1 n1 => hr X c ρ ds' g e2 Hf0 H0 Hf1 H1 σ (S.grow g1) _ fun vs H2 Hf2 F2 g2 r2 n2 => ?_)
    refine p (v :: vs) H2 Hf2 (F1 ++ F2) (g1.trans g2) ⟨v, vs, F1, F2, rfl, rfl, rep_mono g2.f _ _ _ (fun a _ o q => g2.e a o q) r1, r2⟩ fun z => ?_
    rw [Bool.and_eq_true] at z
    exact New.append (Hf := Hf) (Hf1 := Hf1) g1.e ((n1 z.1).grow g2 (rep_dom _ _ _ r1)) (rep_dom _ _ _ r1) (n2 z.2)
  · cases h
def esApp : Es → Es → Es
  | .nil, b => b
  | .cons e r, b => .cons e (esApp r b)
theorem esApp_ev {G : Gd} {ρ : Rho} : ∀ {a b : Es} {ds : List D} {f : Bool}, evs G (esApp a b) ρ = some (ds, f) → ∃ d1 f1 d2 f2, evs G a ρ = some (d1, f1) ∧ evs G b ρ = some (d2, f2) ∧ ds = d1 ++ d2 ∧ f = (f1 && f2)
  | .nil, b, ds, f, h => ⟨[], true, ds, f, by simp only [evs], h, rfl, by simp⟩
  | .cons e r, b, ds, f, h => by
    simp only [esApp, evs] at h
    split at h
    · rename_i d f0 ds' g e1 e2
      cases h
      obtain ⟨d1, f1, d2, f2, h1, h2, rfl, rfl⟩ := esApp_ev e2
      exact ⟨d :: d1, f0 && f1, d2, f2, by simp only [evs, e1, h1], h2, rfl, by rw [Bool.and_assoc]⟩
    · cases h
def esLen : Es → Nat
  | .nil => 0
  | .cons _ r => esLen r + 1
theorem evs_len {G : Gd} {ρ : Rho} : ∀ {es : Es} {ds : List D} {fr : Bool}, evs G es ρ = some (ds, fr) → ∀ {n : Nat}, esLen es = n → ds.length = n
  | .nil, ds, fr, h, n, e => by simp only [evs] at h; cases h; exact e
  | .cons x r, ds, fr, h, n, e => by
    simp only [evs] at h
    split at h
    · rename_i d f ds' g e1 e2
      cases h
      cases e
      rw [List.length_cons, evs_len e2 rfl]
      rfl
    · cases h
/-- a def that is called with its last parameters by name, in their order -/
structure CalK (L : Law) (k' : Nat) (x : Str) (f n : Nat) (ks : List Str) : Prop where
  ex : ∃ (a : Addr) (fd : FuncData) (ps : List Str), FnOk L.P L.w L.T.K L.mg L.base CX0 k' a fd ps (spD L.T (L.G.call f)) ∧ L.mg x = some (.ref a) ∧ PySem.W.keepIn L.T.K (.ref a) = true ∧ KBn L.T.K fd ps n ks (· ++ ·) (· ++ ·)
theorem CalK.of {L : Law} {k' : Nat} {x : Str} {f n : Nat} {ks : List Str} {st : Stmt} {ps : List Str} {a : Addr} {fd : FuncData} (A : At L.T.K L.mg x st ps a fd) (B : KBn L.T.K fd ps n ks (· ++ ·) (· ++ ·))
    (h : FnOk L.P L.w L.T.K L.mg L.base CX0 k' a fd ps (spD L.T (L.G.call f))) : CalK L k' x f n ks := ⟨a, fd, ps, h, A.mgf, A.kp, B⟩
theorem kb_of {K : PySem.W.Frag} {fd : FuncData} {ps ks : List Str} {n : Nat} (h : ∀ us ws : List Value, us.length = n → ws.length = ks.length → bindArgs fd ⟨us, ks.zip ws⟩ = pure (ps.zip (us ++ ws))) : KBn K fd ps n ks (· ++ ·) (· ++ ·) :=
  ⟨fun s us ws _ h1 h2 => .of_eq (h us ws h1 h2), fun r q => r.append q⟩
theorem kb_d {K : PySem.W.Frag} {x qual : Str} {st : Stmt} {ps ks : List Str} {n m : Nat} {T : Addr} {o : Obj} {its : List Value} {kV doc pm : Value} {an : Option Addr} {cdv ct : Value} (lT : K.lookup T = some o) (oT : o.data = .seq its.toArray m)
    (h : ∀ us ws : List Value, us.length = n → ws.length = ks.length → ∃ k, bindArgs (PySem.W.fnOf x qual (C8.fnArgs st) (C8.fnBody st) (C8.fnScope st) (.ref T) kV doc pm an cdv ct) ⟨us, ks.zip ws⟩ = seqItems? (.ref T) >>= k ∧ k (some its.toArray) = pure (ps.zip (us ++ ws))) :
    KBn K (PySem.W.fnOf x qual (C8.fnArgs st) (C8.fnBody st) (C8.fnScope st) (.ref T) kV doc pm an cdv ct) ps n ks (· ++ ·) (· ++ ·) :=
  ⟨fun s us ws X h1 h2 => by
    obtain ⟨k, e1, e2⟩ := h us ws h1 h2
    refine BindsTo.of_looks fun M => ?_
    rw [e1]
    exact looks_items X lT oT (.of_pure e2), fun r q => r.append q⟩
theorem z_callK {f k' n : Nat} {x : Str} {ks : List Str} {e : Expr} {es : List Expr} {kws : List Keyword} {es' kw' all : Es} {p0 pos : Pos} (C : CalK L k' x f n ks) (hk : k' ≤ k) (h : gdB sc x = true) (hall : esApp es' kw' = all)
    (hs : ∀ env, starEach (e :: es) env = (false, eval e env) :: starEach es env) (hp : ∀ pos env, ((backTo pos (starEach (e :: es) env)).any (·.1) || (backToKw pos (keywordEach kws env)).any (·.1.isNone)) = false)
    (hn : ∀ pos env, (backToKw pos (keywordEach kws env)).all (·.1.isSome) = true) (hks : ∀ pos env, (backToKw pos (keywordEach kws env)).filterMap (·.1) = ks) (hl1 : (e :: es).length = n) (hl2 : kws.length = ks.length)
    (hq1 : esLen es' = n) (hq2 : esLen kw' = ks.length)
    (ha : SemA L N sc k (e :: es) es') (hw : SemK L N sc k kws kw') : SemE L N sc k (.Call (.Name x p0) (e :: es) kws pos) (.call f all []) := by
  subst hall
  intro X c ρ d fr hh Hf0 H0 Hf H σ S Q p
  obtain ⟨g1, g2, _⟩ := gdB_ h
  simp only [ev] at hh
  split at hh
  · rename_i ds e1
    split at hh
    · obtain ⟨d1, f1, d2, f2, q1, q2, rfl, z⟩ := esApp_ev e1
      have z' : f1 = true ∧ f2 = true := by simpa using z.symm
      obtain ⟨rfl, rfl⟩ := z'
      cases hd : L.G.call f (frzS (d1 ++ d2) ++ []) with
      | none => rw [hd] at hh; cases hh
      | some d' =>
        rw [hd] at hh
        cases hh
        obtain ⟨a, fd, ps, F, m1, m2, B⟩ := C.ex
        have F' : FnOk X.prog X.w X.K X.mg X.base CX0 k' a fd ps (spD L.T (L.G.call f)) := by rw [c.prog, c.hw, c.hK, c.hmg, c.hbase]; exact F
        have B' : KBn X.K fd ps n ks (· ++ ·) (· ++ ·) := by rw [c.hK]; exact B
        refine by_pe (pe_callN F' (c.room.mono hk) (c.gl g1) (by rw [c.hmg]; exact m1) (by rw [c.hK]; exact m2) B' pass0 (pa_ (e :: es)) (pk_ kws) (hn _ _) (hks _ _) g2 (hs _) (hp _ _)) (ha X c ρ d1 true q1 Hf0 H0 Hf H σ S _ fun vs H1 Hf1 F1 gg1 r1 n1 => ?_)
        refine hw X c ρ d2 true q2 Hf0 H0 Hf1 H1 σ (S.grow gg1) _ fun zs H2 Hf2 F2 gg2 r2 n2 => ?_
        refine ⟨by rw [repS_len r1, evs_len q1 hq1], by rw [repS_len r2, evs_len q2 hq2], ?_⟩
        have r3 := repS_append (repS_mono gg2.f d1 vs F1 (fun a _ o q => gg2.e a o q) r1) r2
        have nn : New H Hf2 (F1 ++ F2) := New.append (Hf := Hf) (Hf1 := Hf1) gg1.e ((n1 rfl).grow gg2 (repS_dom _ _ _ r1)) (repS_dom _ _ _ r1) (n2 rfl)
        obtain ⟨Hf3, gg3, r4, _⟩ := frozenS (gg1.trans gg2) r3 nn
        rw [List.append_nil] at hd
        exact ⟨Hf3, frzS (d1 ++ d2), _, gg3.s, r4, hd, p.grow gg3⟩
    · cases hh
  · cases hh
end
end Z

namespace P36
open PySem PySem.Spec PyProof.Rows L2 Z
def top (i : Nat) : Stmt := PySem.Challenge.pw_firerest_k36_back_steps.main.body.getD i (.Pass ⟨0, 0, 0, 0⟩)
abbrev s0 : Stmt := top 6
def n0 : List Str := ["mask", "found", "lowest"]
def q0 : List Str := ["mask"]
/-- places_of -/
def b0 : Ss := .cons (.asg (.name 1) (.lst (.nil))) (.cons (.while_ (.cmp .NotEq (.slot 0) (.con (.int 0))) (.cons (.asg (.name 2) (.bin .BitAnd (.slot 0) (.un .USub (.slot 0)))) (.cons (.app 1 (.bin .Sub (.blt .bitlen (.cons (.slot 2) .nil)) (.con (.int 1)))) (.cons (.asg (.name 0) (.bin .BitXor (.slot 0) (.slot 2))) (.nil))))) (.cons (.ret (.blt .tuple (.cons (.slot 1) (.nil)))) (.nil)))
def f0 : Z.Def := ⟨1, 3, b0⟩
abbrev s1 : Stmt := top 7
def n1 : List Str := ["size", "lines", "near", "a", "b", "_"]
def q1 : List Str := ["size", "lines"]
/-- near_masks -/
def b1 : Ss := .cons (.asg (.name 2) (.lc [5] (.con (.int 0)) (.name 5) (.rng1 (.slot 0)) (.nil))) (.cons (.for_ (.tup [.name 3, .name 4]) (.lst (.slot 1)) (.cons (.sub 2 (.slot 3) (.bin .BitOr (.idx (.slot 2) (.slot 3)) (.bin .LShift (.con (.int 1)) (.slot 4)))) (.cons (.sub 2 (.slot 4) (.bin .BitOr (.idx (.slot 2) (.slot 4)) (.bin .LShift (.con (.int 1)) (.slot 3)))) (.nil)))) (.cons (.ret (.blt .tuple (.cons (.slot 2) (.nil)))) (.nil)))
def f1 : Z.Def := ⟨2, 6, b1⟩
abbrev s2 : Stmt := top 8
def n2 : List Str := ["near", "mask", "found", "place"]
def q2 : List Str := ["near", "mask"]
/-- spread -/
def b2 : Ss := .cons (.asg (.name 2) (.con (.int 0))) (.cons (.for_ (.name 3) (.lst (.call 0 (.cons (.slot 1) (.nil)) [])) (.cons (.asg (.name 2) (.bin .BitOr (.slot 2) (.idx (.slot 0) (.slot 3)))) (.nil))) (.cons (.ret (.slot 2)) (.nil)))
def f2 : Z.Def := ⟨2, 4, b2⟩
abbrev s3 : Stmt := inClass (top 10) 0
def n3 : List Str := ["self", "size", "lines", "mask", "a", "b"]
def q3 : List Str := ["self", "size", "lines"]
/-- Web.__init__ -/
def b3 : Ss := .cons (.drop (.call 9 (.cons (.slot 1) (.cons (.slot 2) (.nil))) [])) (.cons (.fld 0 0 (.slot 1)) (.cons (.fld 0 1 (.blt .tuple (.cons (.blt .setsort (.cons (.lc [4, 5] (.tup (.cons (.blt .min2 (.cons (.slot 4) (.cons (.slot 5) (.nil)))) (.cons (.blt .max2 (.cons (.slot 4) (.cons (.slot 5) (.nil)))) (.nil)))) (.tup [.name 4, .name 5]) (.lst (.slot 2)) (.nil)) .nil)) (.nil)))) (.cons (.fld 0 2 (.call 1 (.cons (.slot 1) (.cons (.fld (.slot 0) 1) (.nil))) [])) (.cons (.fld 0 3 (.blt .tuple (.cons (.lc [3] (.call 0 (.cons (.slot 3) (.nil)) []) (.name 3) (.lst (.fld (.slot 0) 2)) (.nil)) (.nil)))) (.nil)))))
def f3 : Z.Def := ⟨3, 6, b3⟩
abbrev s4 : Stmt := inClass (top 10) 1
def n4 : List Str := ["self", "place"]
def q4 : List Str := ["self", "place"]
/-- Web.near -/
def b4 : Ss := .cons (.drop (.call 10 (.cons (.slot 0) (.cons (.tup (.cons (.slot 1) (.nil))) (.nil))) [])) (.cons (.ret (.idx (.fld (.slot 0) 3) (.slot 1))) (.nil))
def f4 : Z.Def := ⟨2, 2, b4⟩
abbrev s5 : Stmt := inClass (top 10) 2
def n5 : List Str := ["self", "pair", "a", "b"]
def q5 : List Str := ["self", "pair"]
/-- Web.__contains__ -/
def b5 : Ss := .cons (.asg (.tup [.name 2, .name 3]) (.slot 1)) (.cons (.ret (.and (.chain .LtE .Lt (.con (.int 0)) (.slot 2) (.fld (.slot 0) 0)) (.cmp .In (.slot 3) (.idx (.fld (.slot 0) 3) (.slot 2))))) (.nil))
def f5 : Z.Def := ⟨2, 4, b5⟩
abbrev s6 : Stmt := inClass (top 10) 3
def n6 : List Str := ["self"]
def q6 : List Str := ["self"]
/-- Web.__len__ -/
def b6 : Ss := .cons (.ret (.blt .len (.cons (.fld (.slot 0) 1) (.nil)))) (.nil)
def f6 : Z.Def := ⟨1, 1, b6⟩
abbrev s7 : Stmt := inClass (top 10) 5
def n7 : List Str := ["self", "other", "moved", "a", "b"]
def q7 : List Str := ["self", "other"]
/-- Web.__add__ -/
def b7 : Ss := .cons (.asg (.name 2) (.lc [3, 4] (.tup (.cons (.bin .Add (.slot 3) (.fld (.slot 0) 0)) (.cons (.bin .Add (.slot 4) (.fld (.slot 0) 0)) (.nil)))) (.tup [.name 3, .name 4]) (.lst (.fld (.slot 1) 1)) (.nil))) (.cons (.ret (.mk 0 (.cons (.bin .Add (.fld (.slot 0) 0) (.fld (.slot 1) 0)) (.cons (.bin .Add (.blt .list (.cons (.fld (.slot 0) 1) (.nil))) (.slot 2)) (.nil))) [])) (.nil))
def f7 : Z.Def := ⟨2, 5, b7⟩
abbrev s8 : Stmt := inClass (top 10) 6
def n8 : List Str := ["self", "other"]
def q8 : List Str := ["self", "other"]
/-- Web.__eq__ -/
def b8 : Ss := .cons (.ret (.and (.isi (.slot 1) (.cls 0)) (.and (.cmp .Eq (.fld (.slot 0) 0) (.fld (.slot 1) 0)) (.cmp .Eq (.fld (.slot 0) 1) (.fld (.slot 1) 1))))) (.nil)
def f8 : Z.Def := ⟨2, 2, b8⟩
abbrev s9 : Stmt := top 11
def n9 : List Str := ["size", "lines", "index", "a", "b"]
def q9 : List Str := ["size", "lines"]
/-- check_lines -/
def b9 : Ss := .cons (.for_ (.tup [.name 2, .tup [.name 3, .name 4]]) (.enum (.slot 1)) (.cons (.ite (.or (.not (.and (.chain .LtE .Lt (.con (.int 0)) (.slot 3) (.slot 0)) (.chain .LtE .Lt (.con (.int 0)) (.slot 4) (.slot 0)))) (.cmp .Eq (.slot 3) (.slot 4))) (.cons (.never) (.nil)) (.nil)) (.nil))) (.nil)
def f9 : Z.Def := ⟨2, 5, b9⟩
abbrev s10 : Stmt := top 12
def n10 : List Str := ["web", "places", "place"]
def q10 : List Str := ["web", "places"]
/-- check_places -/
def b10 : Ss := .cons (.for_ (.name 2) (.lst (.slot 1)) (.cons (.ite (.not (.chain .LtE .Lt (.con (.int 0)) (.slot 2) (.fld (.slot 0) 0))) (.cons (.never) (.nil)) (.nil)) (.nil))) (.nil)
def f10 : Z.Def := ⟨2, 3, b10⟩
abbrev s11 : Stmt := inClass (top 15) 0
def n11 : List Str := ["self", "web", "picture"]
def q11 : List Str := ["self", "web", "picture"]
/-- Scene.__init__ -/
def b11 : Ss := .cons (.drop (.call 13 (.cons (.fld (.slot 1) 0) (.cons (.slot 2) (.nil))) [])) (.cons (.fld 0 4 (.slot 1)) (.cons (.fld 0 5 (.blt .tuple (.cons (.slot 2) (.nil)))) (.nil)))
def f11 : Z.Def := ⟨3, 3, b11⟩
abbrev s12 : Stmt := inClass (top 15) 1
def n12 : List Str := ["self", "other"]
def q12 : List Str := ["self", "other"]
/-- Scene.__eq__ -/
def b12 : Ss := .cons (.ret (.and (.isi (.slot 1) (.cls 1)) (.and (.cmp .Eq (.fld (.slot 0) 4) (.fld (.slot 1) 4)) (.cmp .Eq (.fld (.slot 0) 5) (.fld (.slot 1) 5))))) (.nil)
def f12 : Z.Def := ⟨2, 2, b12⟩
abbrev s13 : Stmt := top 16
def n13 : List Str := ["size", "picture", "index", "state"]
def q13 : List Str := ["size", "picture"]
/-- check_picture -/
def b13 : Ss := .cons (.for_ (.tup [.name 2, .name 3]) (.enum (.slot 1)) (.cons (.ite (.or (.cmp .GtE (.slot 2) (.slot 0)) (.cmp .NotIn (.slot 3) (.tup (.cons (.con (.int 0)) (.cons (.con (.int 1)) (.cons (.con (.int 2)) (.nil))))))) (.cons (.never) (.nil)) (.nil)) (.nil))) (.cons (.ite (.cmp .Lt (.blt .len (.cons (.slot 1) (.nil))) (.slot 0)) (.cons (.never) (.nil)) (.nil)) (.nil))
def f13 : Z.Def := ⟨2, 4, b13⟩
abbrev s14 : Stmt := top 17
def n14 : List Str := ["scene", "state"]
def q14 : List Str := ["scene"]
/-- mirror -/
def b14 : Ss := .cons (.ret (.mk 1 (.cons (.fld (.slot 0) 4) (.cons (.lc [1] (.idx (.tup (.cons (.con (.int 0)) (.cons (.con (.int 2)) (.cons (.con (.int 1)) (.nil))))) (.slot 1)) (.name 1) (.lst (.fld (.slot 0) 5)) (.nil)) (.nil))) [])) (.nil)
def f14 : Z.Def := ⟨1, 2, b14⟩
abbrev s15 : Stmt := top 19
def n15 : List Str := ["scene", "fired", "resting", "place", "state"]
def q15 : List Str := ["scene"]
/-- masks_of_scene -/
def b15 : Ss := .cons (.asg (.name 1) (.con (.int 0))) (.cons (.asg (.name 2) (.con (.int 0))) (.cons (.for_ (.tup [.name 3, .name 4]) (.enum (.fld (.slot 0) 5)) (.cons (.ite (.cmp .Eq (.slot 4) (.con (.int 1))) (.cons (.asg (.name 1) (.bin .BitOr (.slot 1) (.bin .LShift (.con (.int 1)) (.slot 3)))) (.nil)) (.cons (.ite (.cmp .Eq (.slot 4) (.con (.int 2))) (.cons (.asg (.name 2) (.bin .BitOr (.slot 2) (.bin .LShift (.con (.int 1)) (.slot 3)))) (.nil)) (.nil)) (.nil))) (.nil))) (.cons (.ret (.tup (.cons (.slot 1) (.cons (.slot 2) (.nil))))) (.nil))))
def f15 : Z.Def := ⟨1, 5, b15⟩
abbrev s16 : Stmt := top 20
def n16 : List Str := ["web", "masks", "states", "fired", "resting", "place"]
def q16 : List Str := ["web", "masks"]
/-- scene_of_masks -/
def b16 : Ss := .cons (.asg (.tup [.name 3, .name 4]) (.slot 1)) (.cons (.asg (.name 2) (.lc [5] (.bin .Add (.bin .BitAnd (.bin .RShift (.slot 3) (.slot 5)) (.con (.int 1))) (.bin .Mult (.con (.int 2)) (.bin .BitAnd (.bin .RShift (.slot 4) (.slot 5)) (.con (.int 1))))) (.name 5) (.rng1 (.fld (.slot 0) 0)) (.nil))) (.cons (.ret (.mk 1 (.cons (.slot 0) (.cons (.slot 2) (.nil))) [])) (.nil)))
def f16 : Z.Def := ⟨2, 6, b16⟩
abbrev s17 : Stmt := top 21
def n17 : List Str := ["web", "poked", "mask", "place"]
def q17 : List Str := ["web", "poked"]
/-- poked_mask -/
def b17 : Ss := .cons (.asg (.name 2) (.con (.int 0))) (.cons (.for_ (.name 3) (.lst (.slot 1)) (.cons (.ite (.chain .LtE .Lt (.con (.int 0)) (.slot 3) (.fld (.slot 0) 0)) (.cons (.asg (.name 2) (.bin .BitOr (.slot 2) (.bin .LShift (.con (.int 1)) (.slot 3)))) (.nil)) (.nil)) (.nil))) (.cons (.ret (.slot 2)) (.nil)))
def f17 : Z.Def := ⟨2, 4, b17⟩
abbrev s18 : Stmt := top 22
def n18 : List Str := ["near", "masks", "poked", "reached", "fired", "resting"]
def q18 : List Str := ["near", "masks", "poked"]
/-- next_masks -/
def b18 : Ss := .cons (.asg (.tup [.name 4, .name 5]) (.slot 1)) (.cons (.asg (.name 3) (.bin .BitOr (.call 2 (.cons (.slot 0) (.cons (.slot 4) (.nil))) []) (.slot 2))) (.cons (.ret (.tup (.cons (.bin .BitAnd (.slot 3) (.un .Invert (.bin .BitOr (.slot 4) (.slot 5)))) (.cons (.slot 4) (.nil))))) (.nil)))
def f18 : Z.Def := ⟨3, 6, b18⟩
abbrev s19 : Stmt := top 24
def n19 : List Str := ["scene", "poked", "web", "masks"]
def q19 : List Str := ["scene", "poked"]
/-- step -/
def b19 : Ss := .cons (.asg (.name 2) (.fld (.slot 0) 4)) (.cons (.asg (.name 3) (.call 18 (.cons (.fld (.slot 2) 2) (.cons (.call 15 (.cons (.slot 0) (.nil)) []) (.cons (.call 17 (.cons (.slot 2) (.cons (.slot 1) (.nil))) []) (.nil)))) [])) (.cons (.ret (.call 16 (.cons (.slot 2) (.cons (.slot 3) (.nil))) [])) (.nil)))
def f19 : Z.Def := ⟨2, 4, b19⟩
abbrev s20 : Stmt := top 26
def n20 : List Str := ["scene", "poked"]
def q20 : List Str := ["scene", "poked"]
/-- back -/
def b20 : Ss := .cons (.ret (.call 14 (.cons (.call 19 (.cons (.call 14 (.cons (.slot 0) (.nil)) []) (.cons (.slot 1) (.nil))) []) (.nil)) [])) (.nil)
def f20 : Z.Def := ⟨2, 2, b20⟩
abbrev s21 : Stmt := top 28
def n21 : List Str := ["value"]
def q21 : List Str := ["value"]
/-- _law_whole -/
def b21 : Ss := .cons (.ret (.and (.isi (.slot 0) .int) (.not (.isi (.slot 0) .bool)))) (.nil)
def f21 : Z.Def := ⟨1, 1, b21⟩
abbrev s22 : Stmt := top 29
def n22 : List Str := ["script", "k", "seed", "cell"]
def q22 : List Str := ["script", "k"]
/-- _law_cell -/
def b22 : Ss := .cons (.ite (.cmp .Lt (.slot 1) (.blt .len (.cons (.slot 0) (.nil)))) (.cons (.ret (.idx (.slot 0) (.slot 1))) (.nil)) (.nil)) (.cons (.asg (.name 2) (.con (.int 17))) (.cons (.for_ (.name 3) (.lst (.slot 0)) (.cons (.asg (.name 2) (.bin .Mod (.blt .int (.cons (.bin .Add (.bin .Mult (.slot 2) (.con (.int 31))) (.bin .Mod (.blt .int (.cons (.slot 3) (.nil))) (.con (.int 1000003)))) (.nil))) (.con (.int 1000003)))) (.nil))) (.cons (.ret (.bin .Mod (.blt .int (.cons (.bin .Mult (.bin .Mult (.bin .Add (.slot 2) (.con (.int 7))) (.bin .Add (.slot 1) (.con (.int 3)))) (.con (.int 69621))) (.nil))) (.con (.int 2147483647)))) (.nil))))
def f22 : Z.Def := ⟨2, 4, b22⟩
abbrev s23 : Stmt := top 30
def n23 : List Str := ["cell", "sizes", "row", "rest", "seed", "k", "size", "twice"]
def q23 : List Str := ["cell", "sizes"]
/-- _law_digits -/
def b23 : Ss := .cons (.asg (.name 2) (.lst (.nil))) (.cons (.asg (.name 3) (.blt .int (.cons (.slot 0) (.nil)))) (.cons (.ite (.cmp .GtE (.slot 3) (.bin .Pow (.con (.int 10)) (.con (.int 18)))) (.cons (.asg (.name 3) (.bin .Sub (.slot 3) (.bin .Pow (.con (.int 10)) (.con (.int 18))))) (.cons (.for_ (.name 6) (.lst (.slot 1)) (.cons (.app 2 (.bin .Mod (.blt .int (.cons (.slot 3) (.nil))) (.slot 6))) (.cons (.asg (.name 3) (.bin .FloorDiv (.blt .int (.cons (.slot 3) (.nil))) (.slot 6))) (.nil)))) (.cons (.ret (.slot 2)) (.nil)))) (.nil)) (.cons (.asg (.name 4) (.bin .Mod (.blt .int (.cons (.slot 3) (.nil))) (.con (.int 2147483629)))) (.cons (.for_ (.name 5) (.rng1 (.blt .len (.cons (.slot 1) (.nil)))) (.cons (.asg (.name 4) (.bin .Mod (.blt .int (.cons (.bin .Add (.bin .Add (.bin .Mult (.slot 4) (.con (.int 48271))) (.bin .Mult (.con (.int 974711)) (.slot 5))) (.con (.int 12345))) (.nil))) (.con (.int 2147483647)))) (.cons (.asg (.name 7) (.bin .Mod (.blt .int (.cons (.bin .Mult (.slot 4) (.bin .Add (.bin .FloorDiv (.slot 4) (.con (.int 65537))) (.con (.int 3)))) (.nil))) (.con (.int 2147483629)))) (.cons (.app 2 (.bin .Mod (.bin .FloorDiv (.slot 7) (.con (.int 19))) (.idx (.slot 1) (.slot 5)))) (.nil))))) (.cons (.ret (.slot 2)) (.nil))))))
def f23 : Z.Def := ⟨2, 8, b23⟩
abbrev s24 : Stmt := top 31
def n24 : List Str := ["row", "most", "size", "known", "k", "lines", "a", "mate", "b"]
def q24 : List Str := ["row", "most"]
/-- _law_web -/
def b24 : Ss := .cons (.asg (.name 2) (.blt .min2 (.cons (.slot 1) (.cons (.idx (.lst (.cons (.con (.int 5)) (.cons (.con (.int 4)) (.cons (.con (.int 6)) (.cons (.con (.int 3)) (.cons (.con (.int 5)) (.cons (.con (.int 7)) (.cons (.con (.int 4)) (.cons (.con (.int 6)) (.cons (.con (.int 2)) (.cons (.con (.int 5)) (.cons (.con (.int 1)) (.cons (.con (.int 6)) (.nil)))))))))))))) (.idx (.slot 0) (.con (.int 0)))) (.nil))))) (.cons (.asg (.name 3) (.lst (.nil))) (.cons (.for_ (.name 4) (.rng2 (.con (.int 1)) (.slot 2)) (.cons (.asg (.name 7) (.idx (.lst (.cons (.bin .Sub (.slot 4) (.con (.int 1))) (.cons (.bin .Sub (.slot 4) (.con (.int 1))) (.cons (.bin .Sub (.slot 4) (.con (.int 1))) (.cons (.con (.int 0)) (.cons (.bin .FloorDiv (.slot 4) (.con (.int 2))) (.cons (.con (.int 0)) (.nil)))))))) (.idx (.slot 0) (.bin .Mult (.con (.int 2)) (.slot 4))))) (.cons (.ite (.cmp .Lt (.idx (.slot 0) (.con (.int 13))) (.con (.int 4))) (.cons (.asg (.name 7) (.bin .Sub (.slot 4) (.con (.int 1)))) (.nil)) (.nil)) (.cons (.ite (.cmp .Lt (.idx (.slot 0) (.bin .Sub (.bin .Mult (.con (.int 2)) (.slot 4)) (.con (.int 1)))) (.con (.int 19))) (.cons (.app 3 (.tup (.cons (.slot 7) (.cons (.slot 4) (.nil))))) (.nil)) (.nil)) (.nil))))) (.cons (.ite (.and (.cmp .Gt (.slot 2) (.con (.int 2))) (.cmp .Lt (.idx (.slot 0) (.con (.int 13))) (.con (.int 6)))) (.cons (.app 3 (.tup (.cons (.con (.int 0)) (.cons (.bin .Sub (.slot 2) (.con (.int 1))) (.nil))))) (.nil)) (.nil)) (.cons (.for_ (.name 4) (.rng1 (.con (.int 3))) (.cons (.asg (.name 6) (.bin .Mod (.idx (.slot 0) (.bin .Add (.con (.int 14)) (.bin .Mult (.con (.int 2)) (.slot 4)))) (.slot 2))) (.cons (.asg (.name 8) (.bin .Mod (.idx (.slot 0) (.bin .Add (.con (.int 15)) (.bin .Mult (.con (.int 2)) (.slot 4)))) (.slot 2))) (.cons (.ite (.and (.cmp .Lt (.slot 6) (.slot 8)) (.cmp .Gt (.idx (.slot 0) (.bin .Add (.con (.int 15)) (.bin .Mult (.con (.int 2)) (.slot 4)))) (.con (.int 2)))) (.cons (.app 3 (.tup (.cons (.slot 6) (.cons (.slot 8) (.nil))))) (.nil)) (.nil)) (.nil))))) (.cons (.asg (.name 5) (.lst (.nil))) (.cons (.for_ (.name 6) (.rng1 (.slot 2)) (.cons (.for_ (.name 8) (.rng2 (.bin .Add (.slot 6) (.con (.int 1))) (.slot 2)) (.cons (.ite (.cmp .In (.tup (.cons (.slot 6) (.cons (.slot 8) (.nil)))) (.slot 3)) (.cons (.app 5 (.tup (.cons (.slot 6) (.cons (.slot 8) (.nil))))) (.nil)) (.nil)) (.nil))) (.nil))) (.cons (.ret (.lst (.cons (.slot 2) (.cons (.slot 5) (.nil))))) (.nil))))))))
def f24 : Z.Def := ⟨2, 9, b24⟩
abbrev s25 : Stmt := top 32
def n25 : List Str := ["row", "size", "k"]
def q25 : List Str := ["row", "size"]
/-- _law_picture -/
def b25 : Ss := .cons (.ite (.and (.cmp .GtE (.idx (.slot 0) (.con (.int 0))) (.con (.int 4))) (.cmp .LtE (.idx (.slot 0) (.con (.int 0))) (.con (.int 7)))) (.cons (.ret (.blt .tuple (.cons (.lc [2] (.bin .Mod (.blt .int (.cons (.bin .Add (.slot 2) (.idx (.slot 0) (.con (.int 1)))) (.nil))) (.con (.int 3))) (.name 2) (.rng1 (.slot 1)) (.nil)) (.nil)))) (.nil)) (.nil)) (.cons (.ite (.cmp .Eq (.idx (.slot 0) (.con (.int 0))) (.con (.int 8))) (.cons (.ret (.blt .tuple (.cons (.lc [2] (.bin .Mult (.bin .Mod (.blt .int (.cons (.bin .Add (.slot 2) (.idx (.slot 0) (.con (.int 1)))) (.nil))) (.con (.int 3))) (.blt .int (.cons (.cmp .NotEq (.slot 2) (.bin .Add (.idx (.slot 0) (.con (.int 2))) (.con (.int 1)))) (.nil)))) (.name 2) (.rng1 (.slot 1)) (.nil)) (.nil)))) (.nil)) (.nil)) (.cons (.ite (.cmp .Eq (.idx (.slot 0) (.con (.int 0))) (.con (.int 9))) (.cons (.ret (.blt .tuple (.cons (.lc [2] (.blt .int (.cons (.cmp .Eq (.slot 2) (.idx (.slot 0) (.con (.int 1)))) (.nil))) (.name 2) (.rng1 (.slot 1)) (.nil)) (.nil)))) (.nil)) (.nil)) (.cons (.ret (.blt .tuple (.cons (.lc [2] (.idx (.slot 0) (.bin .Add (.con (.int 2)) (.slot 2))) (.name 2) (.rng1 (.slot 1)) (.nil)) (.nil)))) (.nil))))
def f25 : Z.Def := ⟨2, 3, b25⟩
abbrev s26 : Stmt := top 33
def n26 : List Str := ["script", "at", "most", "web", "picture"]
def q26 : List Str := ["script", "at", "most"]
/-- _law_scene -/
def b26 : Ss := .cons (.asg (.name 3) (.call 24 (.cons (.call 23 (.cons (.call 22 (.cons (.slot 0) (.cons (.slot 1) (.nil))) []) (.cons (.bin .Add (.bin .Add (.bin .Add (.lst (.cons (.con (.int 12)) (.nil))) (.bin .Mult (.lst (.cons (.con (.int 20)) (.cons (.con (.int 6)) (.nil)))) (.con (.int 6)))) (.lst (.cons (.con (.int 8)) (.nil)))) (.bin .Mult (.lst (.cons (.con (.int 8)) (.cons (.con (.int 8)) (.nil)))) (.con (.int 3)))) (.nil))) []) (.cons (.slot 2) (.nil))) [])) (.cons (.asg (.name 4) (.call 25 (.cons (.call 23 (.cons (.call 22 (.cons (.slot 0) (.cons (.bin .Add (.slot 1) (.con (.int 1))) (.nil))) []) (.cons (.bin .Add (.lst (.cons (.con (.int 10)) (.cons (.con (.int 3)) (.nil)))) (.bin .Mult (.lst (.cons (.con (.int 3)) (.nil))) (.con (.int 7)))) (.nil))) []) (.cons (.idx (.slot 3) (.con (.int 0))) (.nil))) [])) (.cons (.ret (.lst (.cons (.idx (.slot 3) (.con (.int 0))) (.cons (.idx (.slot 3) (.con (.int 1))) (.cons (.slot 4) (.nil)))))) (.nil)))
def f26 : Z.Def := ⟨3, 5, b26⟩
abbrev s27 : Stmt := top 34
def n27 : List Str := ["size", "lines", "near", "line", "k", "row"]
def q27 : List Str := ["size", "lines"]
/-- _law_near -/
def b27 : Ss := .cons (.asg (.name 2) (.lc [4] (.lst (.nil)) (.name 4) (.rng1 (.slot 0)) (.nil))) (.cons (.for_ (.name 3) (.lst (.slot 1)) (.cons (.app2 2 (.idx (.slot 3) (.con (.int 0))) (.idx (.slot 3) (.con (.int 1)))) (.cons (.app2 2 (.idx (.slot 3) (.con (.int 1))) (.idx (.slot 3) (.con (.int 0)))) (.nil)))) (.cons (.ret (.lc [5] (.blt .sorted (.cons (.slot 5) (.nil))) (.name 5) (.lst (.slot 2)) (.nil))) (.nil)))
def f27 : Z.Def := ⟨2, 6, b27⟩
abbrev s28 : Stmt := top 35
def n28 : List Str := ["near", "picture", "touched", "later", "place", "state", "heard", "other"]
def q28 : List Str := ["near", "picture", "touched"]
/-- _law_step -/
def b28 : Ss := .cons (.asg (.name 3) (.lst (.nil))) (.cons (.for_ (.name 4) (.rng1 (.blt .len (.cons (.slot 1) (.nil)))) (.cons (.asg (.name 5) (.idx (.slot 1) (.slot 4))) (.cons (.ite (.cmp .Gt (.slot 5) (.con (.int 0))) (.cons (.app 3 (.idx (.lst (.cons (.con (.int 0)) (.cons (.con (.int 2)) (.cons (.con (.int 0)) (.nil))))) (.slot 5))) (.nil)) (.cons (.asg (.name 6) (.lc [7] (.slot 7) (.name 7) (.lst (.idx (.slot 0) (.slot 4))) (.cons (.cmp .Eq (.idx (.slot 1) (.slot 7)) (.con (.int 1))) .nil))) (.cons (.app 3 (.blt .int (.cons (.or (.cmp .Gt (.blt .len (.cons (.slot 6) (.nil))) (.con (.int 0))) (.cmp .In (.slot 4) (.slot 2))) (.nil)))) (.nil)))) (.nil)))) (.cons (.ret (.blt .tuple (.cons (.slot 3) (.nil)))) (.nil)))
def f28 : Z.Def := ⟨3, 8, b28⟩
abbrev s29 : Stmt := top 36
def n29 : List Str := ["value", "many", "x"]
def q29 : List Str := ["value", "many"]
/-- _law_row -/
def b29 : Ss := .cons (.ret (.and (.isi (.slot 0) .tuple) (.and (.cmp .Eq (.blt .len (.cons (.slot 0) (.nil))) (.slot 1)) (.cmp .Eq (.blt .len (.cons (.lc [2] (.slot 2) (.name 2) (.lst (.slot 0)) (.cons (.not (.call 21 (.cons (.slot 2) (.nil)) [])) .nil)) (.nil))) (.con (.int 0)))))) (.nil)
def f29 : Z.Def := ⟨2, 3, b29⟩
abbrev s30 : Stmt := top 37
def n30 : List Str := ["scene", "web", "picture"]
def q30 : List Str := ["scene", "web", "picture"]
/-- _law_is_scene -/
def b30 : Ss := .cons (.ite (.or (.not (.isi (.slot 0) (.cls 1))) (.not (.cmp .Eq (.fld (.slot 0) 4) (.slot 1)))) (.cons (.ret (.con (.bl false))) (.nil)) (.nil)) (.cons (.ret (.and (.call 29 (.cons (.fld (.slot 0) 5) (.cons (.blt .len (.cons (.slot 2) (.nil))) (.nil))) []) (.cmp .Eq (.fld (.slot 0) 5) (.blt .tuple (.cons (.slot 2) (.nil)))))) (.nil))
def f30 : Z.Def := ⟨3, 3, b30⟩
abbrev s31 : Stmt := top 38
def n31 : List Str := ["near", "picture", "touched", "earlier", "place", "state", "rested", "other"]
def q31 : List Str := ["near", "picture", "touched"]
/-- _law_back -/
def b31 : Ss := .cons (.asg (.name 3) (.lst (.nil))) (.cons (.for_ (.name 4) (.rng1 (.blt .len (.cons (.slot 1) (.nil)))) (.cons (.asg (.name 5) (.idx (.slot 1) (.slot 4))) (.cons (.asg (.name 6) (.lc [7] (.slot 7) (.name 7) (.lst (.idx (.slot 0) (.slot 4))) (.cons (.cmp .Eq (.idx (.slot 1) (.slot 7)) (.con (.int 2))) .nil))) (.cons (.ite (.and (.cmp .Eq (.slot 5) (.con (.int 0))) (.or (.cmp .Gt (.blt .len (.cons (.slot 6) (.nil))) (.con (.int 0))) (.cmp .In (.slot 4) (.slot 2)))) (.cons (.app 3 (.con (.int 2))) (.nil)) (.cons (.app 3 (.idx (.lst (.cons (.con (.int 0)) (.cons (.con (.int 0)) (.cons (.con (.int 1)) (.nil))))) (.slot 5))) (.nil))) (.nil))))) (.cons (.ret (.blt .tuple (.cons (.slot 3) (.nil)))) (.nil)))
def f31 : Z.Def := ⟨3, 8, b31⟩
abbrev s32 : Stmt := top 39
def n32 : List Str := ["picture", "state"]
def q32 : List Str := ["picture"]
/-- _law_mirror -/
def b32 : Ss := .cons (.ret (.blt .tuple (.cons (.lc [1] (.idx (.lst (.cons (.con (.int 0)) (.cons (.con (.int 2)) (.cons (.con (.int 1)) (.nil))))) (.slot 1)) (.name 1) (.lst (.slot 0)) (.nil)) (.nil)))) (.nil)
def f32 : Z.Def := ⟨1, 2, b32⟩
abbrev s33 : Stmt := top 40
def n33 : List Str := ["row", "size", "known", "a", "b", "k"]
def q33 : List Str := ["row"]
/-- _law_thread -/
def b33 : Ss := .cons (.asg (.name 1) (.bin .Add (.con (.int 11)) (.idx (.slot 0) (.con (.int 0))))) (.cons (.asg (.name 2) (.lc [5] (.tup (.cons (.slot 5) (.cons (.bin .Add (.slot 5) (.con (.int 1))) (.nil)))) (.name 5) (.rng1 (.bin .Sub (.slot 1) (.con (.int 1)))) (.cons (.cmp .Gt (.idx (.slot 0) (.bin .Add (.con (.int 3)) (.bin .Mult (.con (.int 2)) (.slot 5)))) (.con (.int 0))) .nil))) (.cons (.asg (.name 3) (.bin .Mod (.idx (.slot 0) (.con (.int 1))) (.slot 1))) (.cons (.asg (.name 4) (.bin .Mod (.idx (.slot 0) (.con (.int 2))) (.slot 1))) (.cons (.ite (.cmp .Lt (.bin .Add (.slot 3) (.con (.int 1))) (.slot 4)) (.cons (.app 2 (.tup (.cons (.slot 3) (.cons (.slot 4) (.nil))))) (.nil)) (.nil)) (.cons (.ret (.lst (.cons (.slot 1) (.cons (.slot 2) (.cons (.blt .tuple (.cons (.lc [5] (.idx (.slot 0) (.bin .Add (.con (.int 4)) (.bin .Mult (.con (.int 2)) (.slot 5)))) (.name 5) (.rng1 (.slot 1)) (.nil)) (.nil))) (.nil)))))) (.nil))))))
def f33 : Z.Def := ⟨1, 6, b33⟩
abbrev s34 : Stmt := top 41
def n34 : List Str := ["scene", "web", "near", "picture", "poked_places", "due", "handed"]
def q34 : List Str := ["scene", "web", "near", "picture", "poked_places"]
/-- _law_asked -/
def b34 : Ss := .cons (.asg (.name 5) (.call 31 (.cons (.slot 2) (.cons (.slot 3) (.cons (.slot 4) (.nil)))) [])) (.cons (.ite (.cmp .NotEq (.slot 5) (.call 32 (.cons (.call 28 (.cons (.slot 2) (.cons (.call 32 (.cons (.slot 3) (.nil)) []) (.cons (.slot 4) (.nil)))) []) (.nil)) [])) (.cons (.ret (.con (.bl false))) (.nil)) (.nil)) (.cons (.asg (.name 6) (.blt .list (.cons (.slot 4) (.nil)))) (.cons (.ite (.or (.not (.call 30 (.cons (.call 20 (.cons (.slot 0) (.cons (.slot 6) (.nil))) []) (.cons (.slot 1) (.cons (.slot 5) (.nil)))) [])) (.cmp .NotEq (.slot 6) (.slot 4))) (.cons (.ret (.con (.bl false))) (.nil)) (.nil)) (.cons (.ite (.not (.call 30 (.cons (.call 20 (.cons (.slot 0) (.nil)) [.tup []]) (.cons (.slot 1) (.cons (.call 31 (.cons (.slot 2) (.cons (.slot 3) (.cons (.lst (.nil)) (.nil)))) []) (.nil)))) [])) (.cons (.ret (.con (.bl false))) (.nil)) (.nil)) (.cons (.ite (.not (.call 30 (.cons (.call 20 (.cons (.slot 0) (.cons (.blt .tuple (.cons (.bin .Add (.slot 4) (.slot 4)) (.nil))) (.nil))) []) (.cons (.slot 1) (.cons (.slot 5) (.nil)))) [])) (.cons (.ret (.con (.bl false))) (.nil)) (.nil)) (.cons (.ret (.and (.call 30 (.cons (.slot 0) (.cons (.slot 1) (.cons (.slot 3) (.nil)))) []) (.call 30 (.cons (.call 20 (.cons (.slot 0) (.cons (.tup (.nil)) (.nil))) []) (.cons (.slot 1) (.cons (.call 31 (.cons (.slot 2) (.cons (.slot 3) (.cons (.lst (.nil)) (.nil)))) []) (.nil)))) []))) (.nil)))))))
def f34 : Z.Def := ⟨5, 7, b34⟩
abbrev s35 : Stmt := top 42
def n35 : List Str := ["script", "drawn", "row", "size", "lines", "picture", "near", "web", "poked_places", "mirrored", "line", "k", "place"]
def q35 : List Str := ["script"]
/-- law -/
def b35 : Ss := .cons (.asg (.name 1) (.call 26 (.cons (.slot 0) (.cons (.con (.int 0)) (.cons (.con (.int 7)) (.nil)))) [])) (.cons (.asg (.name 2) (.call 23 (.cons (.call 22 (.cons (.slot 0) (.cons (.con (.int 4)) (.nil))) []) (.cons (.bin .Add (.bin .Add (.lst (.cons (.con (.int 12)) (.cons (.con (.int 7)) (.nil)))) (.bin .Mult (.lst (.cons (.con (.int 11)) (.nil))) (.con (.int 6)))) (.lst (.cons (.con (.int 6)) (.nil)))) (.nil))) [])) (.cons (.ite (.cmp .Eq (.idx (.slot 2) (.con (.int 8))) (.con (.int 0))) (.cons (.asg (.name 1) (.call 33 (.cons (.call 23 (.cons (.call 22 (.cons (.slot 0) (.cons (.con (.int 3)) (.nil))) []) (.cons (.bin .Add (.lst (.cons (.con (.int 50)) (.cons (.con (.int 60)) (.cons (.con (.int 60)) (.nil))))) (.bin .Mult (.lst (.cons (.con (.int 5)) (.cons (.con (.int 3)) (.nil)))) (.con (.int 60)))) (.nil))) []) (.nil)) [])) (.nil)) (.nil)) (.cons (.asg (.name 3) (.bin .Mult (.idx (.slot 1) (.con (.int 0))) (.blt .int (.cons (.cmp .Gt (.idx (.slot 2) (.con (.int 0))) (.con (.int 0))) (.nil))))) (.cons (.asg (.name 4) (.lc [10] (.slot 10) (.name 10) (.lst (.idx (.slot 1) (.con (.int 1)))) (.cons (.cmp .Gt (.slot 3) (.con (.int 0))) .nil))) (.cons (.asg (.name 5) (.sl (.idx (.slot 1) (.con (.int 2))) (.skip) (.slot 3))) (.cons (.asg (.name 6) (.call 27 (.cons (.slot 3) (.cons (.slot 4) (.nil))) [])) (.cons (.asg (.name 7) (.mk 0 (.cons (.slot 3) (.cons (.slot 4) (.nil))) [])) (.cons (.asg (.name 8) (.lc [11] (.bin .Sub (.idx (.slot 2) (.bin .Add (.con (.int 2)) (.slot 11))) (.con (.int 2))) (.name 11) (.rng1 (.idx (.slot 2) (.con (.int 1)))) (.nil))) (.cons (.ite (.cmp .Eq (.idx (.slot 2) (.con (.int 8))) (.con (.int 0))) (.cons (.asg (.name 8) (.lc [12] (.bin .Mult (.con (.int 6)) (.slot 12)) (.name 12) (.lst (.slot 8)) (.nil))) (.nil)) (.nil)) (.cons (.ite (.not (.call 34 (.cons (.mk 1 (.cons (.slot 7) (.cons (.slot 5) (.nil))) []) (.cons (.slot 7) (.cons (.slot 6) (.cons (.slot 5) (.cons (.slot 8) (.nil)))))) [])) (.cons (.ret (.con (.bl false))) (.nil)) (.nil)) (.cons (.asg (.name 9) (.call 32 (.cons (.slot 5) (.nil)) [])) (.cons (.ret (.call 30 (.cons (.call 20 (.cons (.mk 1 (.cons (.slot 7) (.cons (.slot 9) (.nil))) []) (.cons (.slot 8) (.nil))) []) (.cons (.slot 7) (.cons (.call 31 (.cons (.slot 6) (.cons (.slot 9) (.cons (.slot 8) (.nil)))) []) (.nil)))) [])) (.nil)))))))))))))
def f35 : Z.Def := ⟨1, 13, b35⟩
def names : List Str := ["size", "lines", "masks", "_near", "web", "picture"]
def spc (c : Nat) (s : Sp1) : Option Nat := match c, s with
  | 0, (.cmp .In) => some 5
  | 0, .len => some 6
  | 0, (.bin .Add) => some 7
  | 0, (.cmp .Eq) => some 8
  | 1, (.cmp .Eq) => some 12
  | _, _ => none
noncomputable def Gn (wf : Nat) : Nat → Gd
  | 0 => ⟨fun _ _ => none, fun _ _ => none, fun _ _ => none, wf, fun _ _ => none⟩
  | d + 1 => {
    call := fun f => match f with
      | 0 => runD (Gn wf d) f0
      | 1 => runD (Gn wf d) f1
      | 2 => runD (Gn wf d) f2
      | 4 => runD (Gn wf d) f4
      | 5 => runD (Gn wf d) f5
      | 6 => runD (Gn wf d) f6
      | 7 => runD (Gn wf d) f7
      | 8 => runD (Gn wf d) f8
      | 9 => runD (Gn wf d) f9
      | 10 => runD (Gn wf d) f10
      | 12 => runD (Gn wf d) f12
      | 13 => runD (Gn wf d) f13
      | 14 => runD (Gn wf d) f14
      | 15 => runD (Gn wf d) f15
      | 16 => runD (Gn wf d) f16
      | 17 => runD (Gn wf d) f17
      | 18 => runD (Gn wf d) f18
      | 19 => runD (Gn wf d) f19
      | 20 => runD (Gn wf d) f20
      | 21 => runD (Gn wf d) f21
      | 22 => runD (Gn wf d) f22
      | 23 => runD (Gn wf d) f23
      | 24 => runD (Gn wf d) f24
      | 25 => runD (Gn wf d) f25
      | 26 => runD (Gn wf d) f26
      | 27 => runD (Gn wf d) f27
      | 28 => runD (Gn wf d) f28
      | 29 => runD (Gn wf d) f29
      | 30 => runD (Gn wf d) f30
      | 31 => runD (Gn wf d) f31
      | 32 => runD (Gn wf d) f32
      | 33 => runD (Gn wf d) f33
      | 34 => runD (Gn wf d) f34
      | 35 => runD (Gn wf d) f35
      | _ => fun _ => none
    meth := fun c m => match m with | _ => none
    new := fun c => match c with
      | 0 => newD (Gn wf d) 0 f3
      | 1 => newD (Gn wf d) 1 f11
      | _ => fun _ => none
    wf := wf
    spec := spc }
end P36

namespace P36
open PySem PySem.Spec PyProof.Rows L2 Z
structure Cn (L : Law) (k' : Nat) : Prop where
  ok : LawOk L
  nm : L.T.nm = names
  sp : Specs L k'
  b_bool : L.mg "bool" = none
  b_enumerate : L.mg "enumerate" = none
  b_int : L.mg "int" = none
  b_isinstance : L.mg "isinstance" = none
  b_len : L.mg "len" = none
  b_list : L.mg "list" = none
  b_max : L.mg "max" = none
  b_min : L.mg "min" = none
  b_range : L.mg "range" = none
  b_set : L.mg "set" = none
  b_sorted : L.mg "sorted" = none
  b_tuple : L.mg "tuple" = none
  ins : ∀ c, C8.InsC L.T.K (L.T.cl c)
  m_Web : L.mg "Web" = some (.ref (L.T.cl 0))
  k_Web : C8.Mak L.P L.w L.T.K L.mg L.base k' "Web" (L.T.cl 0) (spI L.T 0 fun _ => L.G.new 0) []
  m_Scene : L.mg "Scene" = some (.ref (L.T.cl 1))
  k_Scene : C8.Mak L.P L.w L.T.K L.mg L.base k' "Scene" (L.T.cl 1) (spI L.T 1 fun _ => L.G.new 1) []
  c_places_of : C8.Cal L.P L.w L.T.K L.mg L.base k' "places_of" (spD L.T (L.G.call 0)) []
  c_near_masks : C8.Cal L.P L.w L.T.K L.mg L.base k' "near_masks" (spD L.T (L.G.call 1)) []
  c_spread : C8.Cal L.P L.w L.T.K L.mg L.base k' "spread" (spD L.T (L.G.call 2)) []
  c_check_lines : C8.Cal L.P L.w L.T.K L.mg L.base k' "check_lines" (spD L.T (L.G.call 9)) []
  c_check_places : C8.Cal L.P L.w L.T.K L.mg L.base k' "check_places" (spD L.T (L.G.call 10)) []
  c_check_picture : C8.Cal L.P L.w L.T.K L.mg L.base k' "check_picture" (spD L.T (L.G.call 13)) []
  c_mirror : C8.Cal L.P L.w L.T.K L.mg L.base k' "mirror" (spD L.T (L.G.call 14)) []
  c_masks_of_scene : C8.Cal L.P L.w L.T.K L.mg L.base k' "masks_of_scene" (spD L.T (L.G.call 15)) []
  c_scene_of_masks : C8.Cal L.P L.w L.T.K L.mg L.base k' "scene_of_masks" (spD L.T (L.G.call 16)) []
  c_poked_mask : C8.Cal L.P L.w L.T.K L.mg L.base k' "poked_mask" (spD L.T (L.G.call 17)) []
  c_next_masks : C8.Cal L.P L.w L.T.K L.mg L.base k' "next_masks" (spD L.T (L.G.call 18)) []
  c_step : C8.Cal L.P L.w L.T.K L.mg L.base k' "step" (spD L.T (L.G.call 19)) []
  c_back : C8.Cal L.P L.w L.T.K L.mg L.base k' "back" (spD L.T (L.G.call 20)) []
  c__law_whole : C8.Cal L.P L.w L.T.K L.mg L.base k' "_law_whole" (spD L.T (L.G.call 21)) []
  c__law_cell : C8.Cal L.P L.w L.T.K L.mg L.base k' "_law_cell" (spD L.T (L.G.call 22)) []
  c__law_digits : C8.Cal L.P L.w L.T.K L.mg L.base k' "_law_digits" (spD L.T (L.G.call 23)) []
  c__law_web : C8.Cal L.P L.w L.T.K L.mg L.base k' "_law_web" (spD L.T (L.G.call 24)) []
  c__law_picture : C8.Cal L.P L.w L.T.K L.mg L.base k' "_law_picture" (spD L.T (L.G.call 25)) []
  c__law_scene : C8.Cal L.P L.w L.T.K L.mg L.base k' "_law_scene" (spD L.T (L.G.call 26)) []
  c__law_near : C8.Cal L.P L.w L.T.K L.mg L.base k' "_law_near" (spD L.T (L.G.call 27)) []
  c__law_step : C8.Cal L.P L.w L.T.K L.mg L.base k' "_law_step" (spD L.T (L.G.call 28)) []
  c__law_row : C8.Cal L.P L.w L.T.K L.mg L.base k' "_law_row" (spD L.T (L.G.call 29)) []
  c__law_is_scene : C8.Cal L.P L.w L.T.K L.mg L.base k' "_law_is_scene" (spD L.T (L.G.call 30)) []
  c__law_back : C8.Cal L.P L.w L.T.K L.mg L.base k' "_law_back" (spD L.T (L.G.call 31)) []
  c__law_mirror : C8.Cal L.P L.w L.T.K L.mg L.base k' "_law_mirror" (spD L.T (L.G.call 32)) []
  c__law_thread : C8.Cal L.P L.w L.T.K L.mg L.base k' "_law_thread" (spD L.T (L.G.call 33)) []
  c__law_asked : C8.Cal L.P L.w L.T.K L.mg L.base k' "_law_asked" (spD L.T (L.G.call 34)) []
  g_MIRRORED : GT L.T.K L.mg "MIRRORED" [0, 2, 1]
  kw_back_1 : CalK L k' "back" 20 1 ["poked"]
  d_back_1 : CalD L k' "back" 20 [.tup []]
section
variable {L : Law} {k' k : Nat}
theorem t0 (X : Cn L k') (h1 : k' + 1 ≤ k) : SemSs L n0 (defSc s0) k (C8.fnBody s0) b0 :=
  have hk : k' ≤ k := Nat.le_of_succ_le h1
  semSs_cons (z_asg (by decide +kernel) (fun _ _ => rfl) (@sem_lst _ _ _ _ _ _ _ (semA_nil))) (semSs_cons (semS_while (semT_cmp (opT_cmpG X.sp hk .NotEq) (by rfl) (z_slot (by decide +kernel)) (sem_int)) (semSs_cons (z_asg (by decide +kernel) (fun _ _ => rfl) (sem_bin (opT_binG X.sp hk .BitAnd) (z_slot (by decide +kernel)) (sem_un (.inl rfl) (z_slot (by decide +kernel))))) (semSs_cons (z_app (by decide +kernel) (by rfl) (fun _ => rfl) (sem_bin (opT_binG X.sp hk .Sub) (sem_bits (fun _ => rfl) (by rfl) (z_slot (by decide +kernel))) (sem_int))) (semSs_cons (z_asg (by decide +kernel) (fun _ _ => rfl) (sem_bin (opT_binG X.sp hk .BitXor) (z_slot (by decide +kernel)) (z_slot (by decide +kernel)))) (semSs_nil))))) (semSs_cons (semS_ret (z_t (callG (by decide) callT_tuple) X.b_tuple (by decide +kernel) (by decide +kernel) (fun _ => rfl) (fun _ _ => rfl) (@semA_cons _ _ _ _ _ _ _ _ (fun _ => rfl) (z_slot (by decide +kernel)) (semA_nil)))) (semSs_nil)))
theorem t1 (X : Cn L k') (h1 : k' + 1 ≤ k) : SemSs L n1 (defSc s1) k (C8.fnBody s1) b1 :=
  have hk : k' ≤ k := Nat.le_of_succ_le h1
  semSs_cons (z_asgLc (own := [("_", 5)]) (by decide +kernel) (by decide +kernel)  (by decide +kernel) (fun _ _ => rfl) (by rfl) (by decide) (z_r1 X.b_range (by decide +kernel) (fun _ => rfl) (z_slot (by decide +kernel))) (z_gn (by decide +kernel)) (z_c0) (sem_int)) (semSs_cons (semS_for (fun _ _ => rfl) (semI_lst (z_slot (by decide +kernel))) (z_gt (fun _ => rfl) (fun _ => rfl) (semGs_cons (fun _ => rfl) (z_gn (by decide +kernel)) (semGs_cons (fun _ => rfl) (z_gn (by decide +kernel)) (semGs_nil)))) (semSs_cons (z_ssub (by decide +kernel) (fun _ _ => rfl) (fun _ => rfl) (fun _ => rfl) (fun _ _ => rfl) (z_slot (by decide +kernel)) (sem_bin (opT_binG X.sp hk .BitOr) (@sem_idx _ _ _ _ _ _ _ _ _ (fun _ _ => rfl) (z_slot (by decide +kernel)) (z_slot (by decide +kernel))) (sem_bin (opT_binG X.sp hk .LShift) (sem_int) (z_slot (by decide +kernel))))) (semSs_cons (z_ssub (by decide +kernel) (fun _ _ => rfl) (fun _ => rfl) (fun _ => rfl) (fun _ _ => rfl) (z_slot (by decide +kernel)) (sem_bin (opT_binG X.sp hk .BitOr) (@sem_idx _ _ _ _ _ _ _ _ _ (fun _ _ => rfl) (z_slot (by decide +kernel)) (z_slot (by decide +kernel))) (sem_bin (opT_binG X.sp hk .LShift) (sem_int) (z_slot (by decide +kernel))))) (semSs_nil)))) (semSs_cons (semS_ret (z_t (callG (by decide) callT_tuple) X.b_tuple (by decide +kernel) (by decide +kernel) (fun _ => rfl) (fun _ _ => rfl) (@semA_cons _ _ _ _ _ _ _ _ (fun _ => rfl) (z_slot (by decide +kernel)) (semA_nil)))) (semSs_nil)))
theorem t2 (X : Cn L k') (h1 : k' + 1 ≤ k) : SemSs L n2 (defSc s2) k (C8.fnBody s2) b2 :=
  have hk : k' ≤ k := Nat.le_of_succ_le h1
  semSs_cons (z_asg (by decide +kernel) (fun _ _ => rfl) (sem_int)) (semSs_cons (semS_for (fun _ _ => rfl) (semI_lst (z_call X.c_places_of hk (by decide +kernel) (fun _ => rfl) (fun _ _ => rfl) (@semA_cons _ _ _ _ _ _ _ _ (fun _ => rfl) (z_slot (by decide +kernel)) (semA_nil)))) (z_gn (by decide +kernel)) (semSs_cons (z_asg (by decide +kernel) (fun _ _ => rfl) (sem_bin (opT_binG X.sp hk .BitOr) (z_slot (by decide +kernel)) (@sem_idx _ _ _ _ _ _ _ _ _ (fun _ _ => rfl) (z_slot (by decide +kernel)) (z_slot (by decide +kernel))))) (semSs_nil))) (semSs_cons (semS_ret (z_slot (by decide +kernel))) (semSs_nil)))
theorem t3 (X : Cn L k') (h1 : k' + 1 ≤ k) : SemSs L n3 (defSc s3) k (C8.fnBody s3) b3 :=
  have hk : k' ≤ k := Nat.le_of_succ_le h1
  semSs_cons (semS_drop (fun _ _ => rfl) (z_call X.c_check_lines hk (by decide +kernel) (fun _ => rfl) (fun _ _ => rfl) (@semA_cons _ _ _ _ _ _ _ _ (fun _ => rfl) (z_slot (by decide +kernel)) (@semA_cons _ _ _ _ _ _ _ _ (fun _ => rfl) (z_slot (by decide +kernel)) (semA_nil))))) (semSs_cons (z_sfld X.ok X.nm (by rfl) (by decide +kernel) (fun _ _ => rfl) (z_slot (by decide +kernel))) (semSs_cons (z_sfld X.ok X.nm (by rfl) (by decide +kernel) (fun _ _ => rfl) (z_t (callG (by decide) callT_tuple) X.b_tuple (by decide +kernel) (by decide +kernel) (fun _ => rfl) (fun _ _ => rfl) (@semA_cons _ _ _ _ _ _ _ _ (fun _ => rfl) (sem_setsort (by decide +kernel) X.b_sorted X.b_set (fun _ => rfl) (fun _ => rfl) (z_lc (own := [("a", 4), ("b", 5)]) (by decide +kernel) (fun _ _ => rfl) (by rfl) (by decide) (semI_lst (z_slot (by decide +kernel))) (z_gt (fun _ => rfl) (fun _ => rfl) (semGs_cons (fun _ => rfl) (z_gn (by decide +kernel)) (semGs_cons (fun _ => rfl) (z_gn (by decide +kernel)) (semGs_nil)))) (z_c0) (@sem_tup _ _ _ _ _ _ _ _ (@semA_cons _ _ _ _ _ _ _ _ (fun _ => rfl) (z_b (callG (by decide) callT_min2) X.b_min (by decide +kernel) (by decide +kernel) (fun _ => rfl) (fun _ _ => rfl) (@semA_cons _ _ _ _ _ _ _ _ (fun _ => rfl) (z_slot (by decide +kernel)) (@semA_cons _ _ _ _ _ _ _ _ (fun _ => rfl) (z_slot (by decide +kernel)) (semA_nil)))) (@semA_cons _ _ _ _ _ _ _ _ (fun _ => rfl) (z_b (callG (by decide) callT_max2) X.b_max (by decide +kernel) (by decide +kernel) (fun _ => rfl) (fun _ _ => rfl) (@semA_cons _ _ _ _ _ _ _ _ (fun _ => rfl) (z_slot (by decide +kernel)) (@semA_cons _ _ _ _ _ _ _ _ (fun _ => rfl) (z_slot (by decide +kernel)) (semA_nil)))) (semA_nil)))))) (semA_nil)))) (semSs_cons (z_sfld X.ok X.nm (by rfl) (by decide +kernel) (fun _ _ => rfl) (z_call X.c_near_masks hk (by decide +kernel) (fun _ => rfl) (fun _ _ => rfl) (@semA_cons _ _ _ _ _ _ _ _ (fun _ => rfl) (z_slot (by decide +kernel)) (@semA_cons _ _ _ _ _ _ _ _ (fun _ => rfl) (z_fld X.ok X.nm (by rfl) (fun _ => rfl) (z_slot (by decide +kernel))) (semA_nil))))) (semSs_cons (z_sfld X.ok X.nm (by rfl) (by decide +kernel) (fun _ _ => rfl) (z_t (callG (by decide) callT_tuple) X.b_tuple (by decide +kernel) (by decide +kernel) (fun _ => rfl) (fun _ _ => rfl) (@semA_cons _ _ _ _ _ _ _ _ (fun _ => rfl) (z_lc (own := [("mask", 3)]) (by decide +kernel) (fun _ _ => rfl) (by rfl) (by decide) (semI_lst (z_fld X.ok X.nm (by rfl) (fun _ => rfl) (z_slot (by decide +kernel)))) (z_gn (by decide +kernel)) (z_c0) (z_call X.c_places_of hk (by decide +kernel) (fun _ => rfl) (fun _ _ => rfl) (@semA_cons _ _ _ _ _ _ _ _ (fun _ => rfl) (z_slot (by decide +kernel)) (semA_nil)))) (semA_nil)))) (semSs_nil)))))
theorem t4 (X : Cn L k') (h1 : k' + 1 ≤ k) : SemSs L n4 (defSc s4) k (C8.fnBody s4) b4 :=
  have hk : k' ≤ k := Nat.le_of_succ_le h1
  semSs_cons (semS_drop (fun _ _ => rfl) (z_call X.c_check_places hk (by decide +kernel) (fun _ => rfl) (fun _ _ => rfl) (@semA_cons _ _ _ _ _ _ _ _ (fun _ => rfl) (z_slot (by decide +kernel)) (@semA_cons _ _ _ _ _ _ _ _ (fun _ => rfl) (@sem_tup _ _ _ _ _ _ _ _ (@semA_cons _ _ _ _ _ _ _ _ (fun _ => rfl) (z_slot (by decide +kernel)) (semA_nil))) (semA_nil))))) (semSs_cons (semS_ret (@sem_idx _ _ _ _ _ _ _ _ _ (fun _ _ => rfl) (z_fld X.ok X.nm (by rfl) (fun _ => rfl) (z_slot (by decide +kernel))) (z_slot (by decide +kernel)))) (semSs_nil))
theorem t5 (X : Cn L k') (h1 : k' + 1 ≤ k) : SemSs L n5 (defSc s5) k (C8.fnBody s5) b5 :=
  have hk : k' ≤ k := Nat.le_of_succ_le h1
  semSs_cons (semS_asgT (fun _ _ => rfl) (fun _ => rfl) (fun _ => rfl) (z_gt (fun _ => rfl) (fun _ => rfl) (semGs_cons (fun _ => rfl) (z_gn (by decide +kernel)) (semGs_cons (fun _ => rfl) (z_gn (by decide +kernel)) (semGs_nil)))) (z_slot (by decide +kernel))) (semSs_cons (semS_ret (sem_and (sem_chain (opT_cmp .LtE) (opT_cmp .Lt) (by rfl) (sem_int) (z_slot (by decide +kernel)) (z_fld X.ok X.nm (by rfl) (fun _ => rfl) (z_slot (by decide +kernel)))) (sem_one (sem_cmp (opT_cmpG X.sp hk .In) (by rfl) (z_slot (by decide +kernel)) (@sem_idx _ _ _ _ _ _ _ _ _ (fun _ _ => rfl) (z_fld X.ok X.nm (by rfl) (fun _ => rfl) (z_slot (by decide +kernel))) (z_slot (by decide +kernel))))))) (semSs_nil))
theorem t6 (X : Cn L k') (h1 : k' + 1 ≤ k) : SemSs L n6 (defSc s6) k (C8.fnBody s6) b6 :=
  have hk : k' ≤ k := Nat.le_of_succ_le h1
  semSs_cons (semS_ret (z_b (callT_lenG X.sp h1) X.b_len (by decide +kernel) (by decide +kernel) (fun _ => rfl) (fun _ _ => rfl) (@semA_cons _ _ _ _ _ _ _ _ (fun _ => rfl) (z_fld X.ok X.nm (by rfl) (fun _ => rfl) (z_slot (by decide +kernel))) (semA_nil)))) (semSs_nil)
theorem t7 (X : Cn L k') (h1 : k' + 1 ≤ k) : SemSs L n7 (defSc s7) k (C8.fnBody s7) b7 :=
  have hk : k' ≤ k := Nat.le_of_succ_le h1
  semSs_cons (z_asgLc (own := [("a", 3), ("b", 4)]) (by decide +kernel) (by decide +kernel)  (by decide +kernel) (fun _ _ => rfl) (by rfl) (by decide) (semI_lst (z_fld X.ok X.nm (by rfl) (fun _ => rfl) (z_slot (by decide +kernel)))) (z_gt (fun _ => rfl) (fun _ => rfl) (semGs_cons (fun _ => rfl) (z_gn (by decide +kernel)) (semGs_cons (fun _ => rfl) (z_gn (by decide +kernel)) (semGs_nil)))) (z_c0) (@sem_tup _ _ _ _ _ _ _ _ (@semA_cons _ _ _ _ _ _ _ _ (fun _ => rfl) (sem_bin (opT_binG X.sp hk .Add) (z_slot (by decide +kernel)) (z_fld X.ok X.nm (by rfl) (fun _ => rfl) (z_slot (by decide +kernel)))) (@semA_cons _ _ _ _ _ _ _ _ (fun _ => rfl) (sem_bin (opT_binG X.sp hk .Add) (z_slot (by decide +kernel)) (z_fld X.ok X.nm (by rfl) (fun _ => rfl) (z_slot (by decide +kernel)))) (semA_nil))))) (semSs_cons (semS_ret (z_mk X.k_Web h1 (by decide +kernel) (fun _ => rfl) (fun _ _ => rfl) (@semA_cons _ _ _ _ _ _ _ _ (fun _ => rfl) (sem_bin (opT_binG X.sp hk .Add) (z_fld X.ok X.nm (by rfl) (fun _ => rfl) (z_slot (by decide +kernel))) (z_fld X.ok X.nm (by rfl) (fun _ => rfl) (z_slot (by decide +kernel)))) (@semA_cons _ _ _ _ _ _ _ _ (fun _ => rfl) (sem_bin (opT_binG X.sp hk .Add) (z_t (callG (by decide) callT_list) X.b_list (by decide +kernel) (by decide +kernel) (fun _ => rfl) (fun _ _ => rfl) (@semA_cons _ _ _ _ _ _ _ _ (fun _ => rfl) (z_fld X.ok X.nm (by rfl) (fun _ => rfl) (z_slot (by decide +kernel))) (semA_nil))) (z_slot (by decide +kernel))) (semA_nil))))) (semSs_nil))
theorem t8 (X : Cn L k') (h1 : k' + 1 ≤ k) : SemSs L n8 (defSc s8) k (C8.fnBody s8) b8 :=
  have hk : k' ≤ k := Nat.le_of_succ_le h1
  semSs_cons (semS_ret (sem_and (z_isiC (X.ins 0) X.b_isinstance X.m_Web (by decide +kernel) (fun _ => rfl) (z_slot (by decide +kernel))) (sem_and (sem_cmp (opT_cmpG X.sp hk .Eq) (by rfl) (z_fld X.ok X.nm (by rfl) (fun _ => rfl) (z_slot (by decide +kernel))) (z_fld X.ok X.nm (by rfl) (fun _ => rfl) (z_slot (by decide +kernel)))) (sem_one (sem_cmp (opT_cmpG X.sp hk .Eq) (by rfl) (z_fld X.ok X.nm (by rfl) (fun _ => rfl) (z_slot (by decide +kernel))) (z_fld X.ok X.nm (by rfl) (fun _ => rfl) (z_slot (by decide +kernel)))))))) (semSs_nil)
theorem t9 (X : Cn L k') (h1 : k' + 1 ≤ k) : SemSs L n9 (defSc s9) k (C8.fnBody s9) b9 :=
  have hk : k' ≤ k := Nat.le_of_succ_le h1
  semSs_cons (semS_for (fun _ _ => rfl) (z_enum X.b_enumerate (by decide +kernel) (fun _ => rfl) (z_slot (by decide +kernel))) (z_gt (fun _ => rfl) (fun _ => rfl) (semGs_cons (fun _ => rfl) (z_gn (by decide +kernel)) (semGs_cons (fun _ => rfl) (z_gt (fun _ => rfl) (fun _ => rfl) (semGs_cons (fun _ => rfl) (z_gn (by decide +kernel)) (semGs_cons (fun _ => rfl) (z_gn (by decide +kernel)) (semGs_nil)))) (semGs_nil)))) (semSs_cons (semS_ite (SemW.t (semW_or (semT_not (SemW.t (semW_and (semT_chain (by rfl) (sem_int) (z_slot (by decide +kernel)) (z_slot (by decide +kernel))) (semW_and1 (semT_chain (by rfl) (sem_int) (z_slot (by decide +kernel)) (z_slot (by decide +kernel))))))) (semW_or1 (semT_cmp (opT_cmpG X.sp hk .Eq) (by rfl) (z_slot (by decide +kernel)) (z_slot (by decide +kernel)))))) (semSs_cons (semS_never) (semSs_nil)) (semSs_nil)) (semSs_nil))) (semSs_nil)
theorem t10 (X : Cn L k') (h1 : k' + 1 ≤ k) : SemSs L n10 (defSc s10) k (C8.fnBody s10) b10 :=
  have hk : k' ≤ k := Nat.le_of_succ_le h1
  semSs_cons (semS_for (fun _ _ => rfl) (semI_lst (z_slot (by decide +kernel))) (z_gn (by decide +kernel)) (semSs_cons (semS_ite (semT_not (semT_chain (by rfl) (sem_int) (z_slot (by decide +kernel)) (z_fld X.ok X.nm (by rfl) (fun _ => rfl) (z_slot (by decide +kernel))))) (semSs_cons (semS_never) (semSs_nil)) (semSs_nil)) (semSs_nil))) (semSs_nil)
theorem t11 (X : Cn L k') (h1 : k' + 1 ≤ k) : SemSs L n11 (defSc s11) k (C8.fnBody s11) b11 :=
  have hk : k' ≤ k := Nat.le_of_succ_le h1
  semSs_cons (semS_drop (fun _ _ => rfl) (z_call X.c_check_picture hk (by decide +kernel) (fun _ => rfl) (fun _ _ => rfl) (@semA_cons _ _ _ _ _ _ _ _ (fun _ => rfl) (z_fld X.ok X.nm (by rfl) (fun _ => rfl) (z_slot (by decide +kernel))) (@semA_cons _ _ _ _ _ _ _ _ (fun _ => rfl) (z_slot (by decide +kernel)) (semA_nil))))) (semSs_cons (z_sfld X.ok X.nm (by rfl) (by decide +kernel) (fun _ _ => rfl) (z_slot (by decide +kernel))) (semSs_cons (z_sfld X.ok X.nm (by rfl) (by decide +kernel) (fun _ _ => rfl) (z_t (callG (by decide) callT_tuple) X.b_tuple (by decide +kernel) (by decide +kernel) (fun _ => rfl) (fun _ _ => rfl) (@semA_cons _ _ _ _ _ _ _ _ (fun _ => rfl) (z_slot (by decide +kernel)) (semA_nil)))) (semSs_nil)))
theorem t12 (X : Cn L k') (h1 : k' + 1 ≤ k) : SemSs L n12 (defSc s12) k (C8.fnBody s12) b12 :=
  have hk : k' ≤ k := Nat.le_of_succ_le h1
  semSs_cons (semS_ret (sem_and (z_isiC (X.ins 1) X.b_isinstance X.m_Scene (by decide +kernel) (fun _ => rfl) (z_slot (by decide +kernel))) (sem_and (sem_cmp (opT_cmpG X.sp hk .Eq) (by rfl) (z_fld X.ok X.nm (by rfl) (fun _ => rfl) (z_slot (by decide +kernel))) (z_fld X.ok X.nm (by rfl) (fun _ => rfl) (z_slot (by decide +kernel)))) (sem_one (sem_cmp (opT_cmpG X.sp hk .Eq) (by rfl) (z_fld X.ok X.nm (by rfl) (fun _ => rfl) (z_slot (by decide +kernel))) (z_fld X.ok X.nm (by rfl) (fun _ => rfl) (z_slot (by decide +kernel)))))))) (semSs_nil)
theorem t13 (X : Cn L k') (h1 : k' + 1 ≤ k) : SemSs L n13 (defSc s13) k (C8.fnBody s13) b13 :=
  have hk : k' ≤ k := Nat.le_of_succ_le h1
  semSs_cons (semS_for (fun _ _ => rfl) (z_enum X.b_enumerate (by decide +kernel) (fun _ => rfl) (z_slot (by decide +kernel))) (z_gt (fun _ => rfl) (fun _ => rfl) (semGs_cons (fun _ => rfl) (z_gn (by decide +kernel)) (semGs_cons (fun _ => rfl) (z_gn (by decide +kernel)) (semGs_nil)))) (semSs_cons (semS_ite (SemW.t (semW_or (semT_cmp (opT_cmpG X.sp hk .GtE) (by rfl) (z_slot (by decide +kernel)) (z_slot (by decide +kernel))) (semW_or1 (semT_cmp (opT_cmpG X.sp hk .NotIn) (by rfl) (z_slot (by decide +kernel)) (@sem_tup _ _ _ _ _ _ _ _ (@semA_cons _ _ _ _ _ _ _ _ (fun _ => rfl) (sem_int) (@semA_cons _ _ _ _ _ _ _ _ (fun _ => rfl) (sem_int) (@semA_cons _ _ _ _ _ _ _ _ (fun _ => rfl) (sem_int) (semA_nil))))))))) (semSs_cons (semS_never) (semSs_nil)) (semSs_nil)) (semSs_nil))) (semSs_cons (semS_ite (semT_cmp (opT_cmpG X.sp hk .Lt) (by rfl) (z_b (callT_lenG X.sp h1) X.b_len (by decide +kernel) (by decide +kernel) (fun _ => rfl) (fun _ _ => rfl) (@semA_cons _ _ _ _ _ _ _ _ (fun _ => rfl) (z_slot (by decide +kernel)) (semA_nil))) (z_slot (by decide +kernel))) (semSs_cons (semS_never) (semSs_nil)) (semSs_nil)) (semSs_nil))
theorem t14 (X : Cn L k') (h1 : k' + 1 ≤ k) : SemSs L n14 (defSc s14) k (C8.fnBody s14) b14 :=
  have hk : k' ≤ k := Nat.le_of_succ_le h1
  semSs_cons (semS_ret (z_mk X.k_Scene h1 (by decide +kernel) (fun _ => rfl) (fun _ _ => rfl) (@semA_cons _ _ _ _ _ _ _ _ (fun _ => rfl) (z_fld X.ok X.nm (by rfl) (fun _ => rfl) (z_slot (by decide +kernel))) (@semA_cons _ _ _ _ _ _ _ _ (fun _ => rfl) (z_lc (own := [("state", 1)]) (by decide +kernel) (fun _ _ => rfl) (by rfl) (by decide) (semI_lst (z_fld X.ok X.nm (by rfl) (fun _ => rfl) (z_slot (by decide +kernel)))) (z_gn (by decide +kernel)) (z_c0) (@sem_idx _ _ _ _ _ _ _ _ _ (fun _ _ => rfl) (sem_globT (is := [0, 2, 1]) X.g_MIRRORED (by decide +kernel)) (z_slot (by decide +kernel)))) (semA_nil))))) (semSs_nil)
theorem t15 (X : Cn L k') (h1 : k' + 1 ≤ k) : SemSs L n15 (defSc s15) k (C8.fnBody s15) b15 :=
  have hk : k' ≤ k := Nat.le_of_succ_le h1
  semSs_cons (z_asg (by decide +kernel) (fun _ _ => rfl) (sem_int)) (semSs_cons (z_asg (by decide +kernel) (fun _ _ => rfl) (sem_int)) (semSs_cons (semS_for (fun _ _ => rfl) (z_enum X.b_enumerate (by decide +kernel) (fun _ => rfl) (z_fld X.ok X.nm (by rfl) (fun _ => rfl) (z_slot (by decide +kernel)))) (z_gt (fun _ => rfl) (fun _ => rfl) (semGs_cons (fun _ => rfl) (z_gn (by decide +kernel)) (semGs_cons (fun _ => rfl) (z_gn (by decide +kernel)) (semGs_nil)))) (semSs_cons (semS_ite (semT_cmp (opT_cmpG X.sp hk .Eq) (by rfl) (z_slot (by decide +kernel)) (sem_int)) (semSs_cons (z_asg (by decide +kernel) (fun _ _ => rfl) (sem_bin (opT_binG X.sp hk .BitOr) (z_slot (by decide +kernel)) (sem_bin (opT_binG X.sp hk .LShift) (sem_int) (z_slot (by decide +kernel))))) (semSs_nil)) (semSs_cons (semS_ite (semT_cmp (opT_cmpG X.sp hk .Eq) (by rfl) (z_slot (by decide +kernel)) (sem_int)) (semSs_cons (z_asg (by decide +kernel) (fun _ _ => rfl) (sem_bin (opT_binG X.sp hk .BitOr) (z_slot (by decide +kernel)) (sem_bin (opT_binG X.sp hk .LShift) (sem_int) (z_slot (by decide +kernel))))) (semSs_nil)) (semSs_nil)) (semSs_nil))) (semSs_nil))) (semSs_cons (semS_ret (@sem_tup _ _ _ _ _ _ _ _ (@semA_cons _ _ _ _ _ _ _ _ (fun _ => rfl) (z_slot (by decide +kernel)) (@semA_cons _ _ _ _ _ _ _ _ (fun _ => rfl) (z_slot (by decide +kernel)) (semA_nil))))) (semSs_nil))))
theorem t16 (X : Cn L k') (h1 : k' + 1 ≤ k) : SemSs L n16 (defSc s16) k (C8.fnBody s16) b16 :=
  have hk : k' ≤ k := Nat.le_of_succ_le h1
  semSs_cons (semS_asgT (fun _ _ => rfl) (fun _ => rfl) (fun _ => rfl) (z_gt (fun _ => rfl) (fun _ => rfl) (semGs_cons (fun _ => rfl) (z_gn (by decide +kernel)) (semGs_cons (fun _ => rfl) (z_gn (by decide +kernel)) (semGs_nil)))) (z_slot (by decide +kernel))) (semSs_cons (z_asgLc (own := [("place", 5)]) (by decide +kernel) (by decide +kernel)  (by decide +kernel) (fun _ _ => rfl) (by rfl) (by decide) (z_r1 X.b_range (by decide +kernel) (fun _ => rfl) (z_fld X.ok X.nm (by rfl) (fun _ => rfl) (z_slot (by decide +kernel)))) (z_gn (by decide +kernel)) (z_c0) (sem_bin (opT_binG X.sp hk .Add) (sem_bin (opT_binG X.sp hk .BitAnd) (sem_bin (opT_binG X.sp hk .RShift) (z_slot (by decide +kernel)) (z_slot (by decide +kernel))) (sem_int)) (sem_bin (opT_binG X.sp hk .Mult) (sem_int) (sem_bin (opT_binG X.sp hk .BitAnd) (sem_bin (opT_binG X.sp hk .RShift) (z_slot (by decide +kernel)) (z_slot (by decide +kernel))) (sem_int))))) (semSs_cons (semS_ret (z_mk X.k_Scene h1 (by decide +kernel) (fun _ => rfl) (fun _ _ => rfl) (@semA_cons _ _ _ _ _ _ _ _ (fun _ => rfl) (z_slot (by decide +kernel)) (@semA_cons _ _ _ _ _ _ _ _ (fun _ => rfl) (z_slot (by decide +kernel)) (semA_nil))))) (semSs_nil)))
theorem t17 (X : Cn L k') (h1 : k' + 1 ≤ k) : SemSs L n17 (defSc s17) k (C8.fnBody s17) b17 :=
  have hk : k' ≤ k := Nat.le_of_succ_le h1
  semSs_cons (z_asg (by decide +kernel) (fun _ _ => rfl) (sem_int)) (semSs_cons (semS_for (fun _ _ => rfl) (semI_lst (z_slot (by decide +kernel))) (z_gn (by decide +kernel)) (semSs_cons (semS_ite (semT_chain (by rfl) (sem_int) (z_slot (by decide +kernel)) (z_fld X.ok X.nm (by rfl) (fun _ => rfl) (z_slot (by decide +kernel)))) (semSs_cons (z_asg (by decide +kernel) (fun _ _ => rfl) (sem_bin (opT_binG X.sp hk .BitOr) (z_slot (by decide +kernel)) (sem_bin (opT_binG X.sp hk .LShift) (sem_int) (z_slot (by decide +kernel))))) (semSs_nil)) (semSs_nil)) (semSs_nil))) (semSs_cons (semS_ret (z_slot (by decide +kernel))) (semSs_nil)))
theorem t18 (X : Cn L k') (h1 : k' + 1 ≤ k) : SemSs L n18 (defSc s18) k (C8.fnBody s18) b18 :=
  have hk : k' ≤ k := Nat.le_of_succ_le h1
  semSs_cons (semS_asgT (fun _ _ => rfl) (fun _ => rfl) (fun _ => rfl) (z_gt (fun _ => rfl) (fun _ => rfl) (semGs_cons (fun _ => rfl) (z_gn (by decide +kernel)) (semGs_cons (fun _ => rfl) (z_gn (by decide +kernel)) (semGs_nil)))) (z_slot (by decide +kernel))) (semSs_cons (z_asg (by decide +kernel) (fun _ _ => rfl) (sem_bin (opT_binG X.sp hk .BitOr) (z_call X.c_spread hk (by decide +kernel) (fun _ => rfl) (fun _ _ => rfl) (@semA_cons _ _ _ _ _ _ _ _ (fun _ => rfl) (z_slot (by decide +kernel)) (@semA_cons _ _ _ _ _ _ _ _ (fun _ => rfl) (z_slot (by decide +kernel)) (semA_nil)))) (z_slot (by decide +kernel)))) (semSs_cons (semS_ret (@sem_tup _ _ _ _ _ _ _ _ (@semA_cons _ _ _ _ _ _ _ _ (fun _ => rfl) (sem_bin (opT_binG X.sp hk .BitAnd) (z_slot (by decide +kernel)) (sem_un (.inr rfl) (sem_bin (opT_binG X.sp hk .BitOr) (z_slot (by decide +kernel)) (z_slot (by decide +kernel))))) (@semA_cons _ _ _ _ _ _ _ _ (fun _ => rfl) (z_slot (by decide +kernel)) (semA_nil))))) (semSs_nil)))
theorem t19 (X : Cn L k') (h1 : k' + 1 ≤ k) : SemSs L n19 (defSc s19) k (C8.fnBody s19) b19 :=
  have hk : k' ≤ k := Nat.le_of_succ_le h1
  semSs_cons (z_asg (by decide +kernel) (fun _ _ => rfl) (z_fld X.ok X.nm (by rfl) (fun _ => rfl) (z_slot (by decide +kernel)))) (semSs_cons (z_asg (by decide +kernel) (fun _ _ => rfl) (z_call X.c_next_masks hk (by decide +kernel) (fun _ => rfl) (fun _ _ => rfl) (@semA_cons _ _ _ _ _ _ _ _ (fun _ => rfl) (z_fld X.ok X.nm (by rfl) (fun _ => rfl) (z_slot (by decide +kernel))) (@semA_cons _ _ _ _ _ _ _ _ (fun _ => rfl) (z_call X.c_masks_of_scene hk (by decide +kernel) (fun _ => rfl) (fun _ _ => rfl) (@semA_cons _ _ _ _ _ _ _ _ (fun _ => rfl) (z_slot (by decide +kernel)) (semA_nil))) (@semA_cons _ _ _ _ _ _ _ _ (fun _ => rfl) (z_call X.c_poked_mask hk (by decide +kernel) (fun _ => rfl) (fun _ _ => rfl) (@semA_cons _ _ _ _ _ _ _ _ (fun _ => rfl) (z_slot (by decide +kernel)) (@semA_cons _ _ _ _ _ _ _ _ (fun _ => rfl) (z_slot (by decide +kernel)) (semA_nil)))) (semA_nil)))))) (semSs_cons (semS_ret (z_call X.c_scene_of_masks hk (by decide +kernel) (fun _ => rfl) (fun _ _ => rfl) (@semA_cons _ _ _ _ _ _ _ _ (fun _ => rfl) (z_slot (by decide +kernel)) (@semA_cons _ _ _ _ _ _ _ _ (fun _ => rfl) (z_slot (by decide +kernel)) (semA_nil))))) (semSs_nil)))
theorem t20 (X : Cn L k') (h1 : k' + 1 ≤ k) : SemSs L n20 (defSc s20) k (C8.fnBody s20) b20 :=
  have hk : k' ≤ k := Nat.le_of_succ_le h1
  semSs_cons (semS_ret (z_call X.c_mirror hk (by decide +kernel) (fun _ => rfl) (fun _ _ => rfl) (@semA_cons _ _ _ _ _ _ _ _ (fun _ => rfl) (z_call X.c_step hk (by decide +kernel) (fun _ => rfl) (fun _ _ => rfl) (@semA_cons _ _ _ _ _ _ _ _ (fun _ => rfl) (z_call X.c_mirror hk (by decide +kernel) (fun _ => rfl) (fun _ _ => rfl) (@semA_cons _ _ _ _ _ _ _ _ (fun _ => rfl) (z_slot (by decide +kernel)) (semA_nil))) (@semA_cons _ _ _ _ _ _ _ _ (fun _ => rfl) (z_slot (by decide +kernel)) (semA_nil)))) (semA_nil)))) (semSs_nil)
theorem t21 (X : Cn L k') (h1 : k' + 1 ≤ k) : SemSs L n21 (defSc s21) k (C8.fnBody s21) b21 :=
  have hk : k' ≤ k := Nat.le_of_succ_le h1
  semSs_cons (semS_ret (sem_and (z_isi X.b_isinstance X.b_int (by decide +kernel) (by decide +kernel) (by intro c h; cases h) (fun _ => rfl) (z_slot (by decide +kernel))) (sem_one (sem_not (z_isi X.b_isinstance X.b_bool (by decide +kernel) (by decide +kernel) (by intro c h; cases h) (fun _ => rfl) (z_slot (by decide +kernel))))))) (semSs_nil)
theorem t22 (X : Cn L k') (h1 : k' + 1 ≤ k) : SemSs L n22 (defSc s22) k (C8.fnBody s22) b22 :=
  have hk : k' ≤ k := Nat.le_of_succ_le h1
  semSs_cons (semS_ite (semT_cmp (opT_cmpG X.sp hk .Lt) (by rfl) (z_slot (by decide +kernel)) (z_b (callT_lenG X.sp h1) X.b_len (by decide +kernel) (by decide +kernel) (fun _ => rfl) (fun _ _ => rfl) (@semA_cons _ _ _ _ _ _ _ _ (fun _ => rfl) (z_slot (by decide +kernel)) (semA_nil)))) (semSs_cons (semS_ret (@sem_idx _ _ _ _ _ _ _ _ _ (fun _ _ => rfl) (z_slot (by decide +kernel)) (z_slot (by decide +kernel)))) (semSs_nil)) (semSs_nil)) (semSs_cons (z_asg (by decide +kernel) (fun _ _ => rfl) (sem_int)) (semSs_cons (semS_for (fun _ _ => rfl) (semI_lst (z_slot (by decide +kernel))) (z_gn (by decide +kernel)) (semSs_cons (z_asg (by decide +kernel) (fun _ _ => rfl) (sem_bin (opT_binG X.sp hk .Mod) (z_t (callG (by decide) callT_int) X.b_int (by decide +kernel) (by decide +kernel) (fun _ => rfl) (fun _ _ => rfl) (@semA_cons _ _ _ _ _ _ _ _ (fun _ => rfl) (sem_bin (opT_binG X.sp hk .Add) (sem_bin (opT_binG X.sp hk .Mult) (z_slot (by decide +kernel)) (sem_int)) (sem_bin (opT_binG X.sp hk .Mod) (z_t (callG (by decide) callT_int) X.b_int (by decide +kernel) (by decide +kernel) (fun _ => rfl) (fun _ _ => rfl) (@semA_cons _ _ _ _ _ _ _ _ (fun _ => rfl) (z_slot (by decide +kernel)) (semA_nil))) (sem_int))) (semA_nil))) (sem_int))) (semSs_nil))) (semSs_cons (semS_ret (sem_bin (opT_binG X.sp hk .Mod) (z_t (callG (by decide) callT_int) X.b_int (by decide +kernel) (by decide +kernel) (fun _ => rfl) (fun _ _ => rfl) (@semA_cons _ _ _ _ _ _ _ _ (fun _ => rfl) (sem_bin (opT_binG X.sp hk .Mult) (sem_bin (opT_binG X.sp hk .Mult) (sem_bin (opT_binG X.sp hk .Add) (z_slot (by decide +kernel)) (sem_int)) (sem_bin (opT_binG X.sp hk .Add) (z_slot (by decide +kernel)) (sem_int))) (sem_int)) (semA_nil))) (sem_int))) (semSs_nil))))
theorem t23 (X : Cn L k') (h1 : k' + 1 ≤ k) : SemSs L n23 (defSc s23) k (C8.fnBody s23) b23 :=
  have hk : k' ≤ k := Nat.le_of_succ_le h1
  semSs_cons (z_asg (by decide +kernel) (fun _ _ => rfl) (@sem_lst _ _ _ _ _ _ _ (semA_nil))) (semSs_cons (z_asg (by decide +kernel) (fun _ _ => rfl) (z_t (callG (by decide) callT_int) X.b_int (by decide +kernel) (by decide +kernel) (fun _ => rfl) (fun _ _ => rfl) (@semA_cons _ _ _ _ _ _ _ _ (fun _ => rfl) (z_slot (by decide +kernel)) (semA_nil)))) (semSs_cons (semS_ite (semT_cmp (opT_cmpG X.sp hk .GtE) (by rfl) (z_slot (by decide +kernel)) (sem_bin (opT_binG X.sp hk .Pow) (sem_int) (sem_int))) (semSs_cons (z_asg (by decide +kernel) (fun _ _ => rfl) (sem_bin (opT_binG X.sp hk .Sub) (z_slot (by decide +kernel)) (sem_bin (opT_binG X.sp hk .Pow) (sem_int) (sem_int)))) (semSs_cons (semS_for (fun _ _ => rfl) (semI_lst (z_slot (by decide +kernel))) (z_gn (by decide +kernel)) (semSs_cons (z_app (by decide +kernel) (by rfl) (fun _ => rfl) (sem_bin (opT_binG X.sp hk .Mod) (z_t (callG (by decide) callT_int) X.b_int (by decide +kernel) (by decide +kernel) (fun _ => rfl) (fun _ _ => rfl) (@semA_cons _ _ _ _ _ _ _ _ (fun _ => rfl) (z_slot (by decide +kernel)) (semA_nil))) (z_slot (by decide +kernel)))) (semSs_cons (z_asg (by decide +kernel) (fun _ _ => rfl) (sem_bin (opT_binG X.sp hk .FloorDiv) (z_t (callG (by decide) callT_int) X.b_int (by decide +kernel) (by decide +kernel) (fun _ => rfl) (fun _ _ => rfl) (@semA_cons _ _ _ _ _ _ _ _ (fun _ => rfl) (z_slot (by decide +kernel)) (semA_nil))) (z_slot (by decide +kernel)))) (semSs_nil)))) (semSs_cons (semS_ret (z_slot (by decide +kernel))) (semSs_nil)))) (semSs_nil)) (semSs_cons (z_asg (by decide +kernel) (fun _ _ => rfl) (sem_bin (opT_binG X.sp hk .Mod) (z_t (callG (by decide) callT_int) X.b_int (by decide +kernel) (by decide +kernel) (fun _ => rfl) (fun _ _ => rfl) (@semA_cons _ _ _ _ _ _ _ _ (fun _ => rfl) (z_slot (by decide +kernel)) (semA_nil))) (sem_int))) (semSs_cons (semS_for (fun _ _ => rfl) (z_r1 X.b_range (by decide +kernel) (fun _ => rfl) (z_b (callT_lenG X.sp h1) X.b_len (by decide +kernel) (by decide +kernel) (fun _ => rfl) (fun _ _ => rfl) (@semA_cons _ _ _ _ _ _ _ _ (fun _ => rfl) (z_slot (by decide +kernel)) (semA_nil)))) (z_gn (by decide +kernel)) (semSs_cons (z_asg (by decide +kernel) (fun _ _ => rfl) (sem_bin (opT_binG X.sp hk .Mod) (z_t (callG (by decide) callT_int) X.b_int (by decide +kernel) (by decide +kernel) (fun _ => rfl) (fun _ _ => rfl) (@semA_cons _ _ _ _ _ _ _ _ (fun _ => rfl) (sem_bin (opT_binG X.sp hk .Add) (sem_bin (opT_binG X.sp hk .Add) (sem_bin (opT_binG X.sp hk .Mult) (z_slot (by decide +kernel)) (sem_int)) (sem_bin (opT_binG X.sp hk .Mult) (sem_int) (z_slot (by decide +kernel)))) (sem_int)) (semA_nil))) (sem_int))) (semSs_cons (z_asg (by decide +kernel) (fun _ _ => rfl) (sem_bin (opT_binG X.sp hk .Mod) (z_t (callG (by decide) callT_int) X.b_int (by decide +kernel) (by decide +kernel) (fun _ => rfl) (fun _ _ => rfl) (@semA_cons _ _ _ _ _ _ _ _ (fun _ => rfl) (sem_bin (opT_binG X.sp hk .Mult) (z_slot (by decide +kernel)) (sem_bin (opT_binG X.sp hk .Add) (sem_bin (opT_binG X.sp hk .FloorDiv) (z_slot (by decide +kernel)) (sem_int)) (sem_int))) (semA_nil))) (sem_int))) (semSs_cons (z_app (by decide +kernel) (by rfl) (fun _ => rfl) (sem_bin (opT_binG X.sp hk .Mod) (sem_bin (opT_binG X.sp hk .FloorDiv) (z_slot (by decide +kernel)) (sem_int)) (@sem_idx _ _ _ _ _ _ _ _ _ (fun _ _ => rfl) (z_slot (by decide +kernel)) (z_slot (by decide +kernel))))) (semSs_nil))))) (semSs_cons (semS_ret (z_slot (by decide +kernel))) (semSs_nil))))))
theorem t24 (X : Cn L k') (h1 : k' + 1 ≤ k) : SemSs L n24 (defSc s24) k (C8.fnBody s24) b24 :=
  have hk : k' ≤ k := Nat.le_of_succ_le h1
  semSs_cons (z_asg (by decide +kernel) (fun _ _ => rfl) (z_b (callG (by decide) callT_min2) X.b_min (by decide +kernel) (by decide +kernel) (fun _ => rfl) (fun _ _ => rfl) (@semA_cons _ _ _ _ _ _ _ _ (fun _ => rfl) (z_slot (by decide +kernel)) (@semA_cons _ _ _ _ _ _ _ _ (fun _ => rfl) (@sem_idx _ _ _ _ _ _ _ _ _ (fun _ _ => rfl) (@sem_lst _ _ _ _ _ _ _ (@semA_cons _ _ _ _ _ _ _ _ (fun _ => rfl) (sem_int) (@semA_cons _ _ _ _ _ _ _ _ (fun _ => rfl) (sem_int) (@semA_cons _ _ _ _ _ _ _ _ (fun _ => rfl) (sem_int) (@semA_cons _ _ _ _ _ _ _ _ (fun _ => rfl) (sem_int) (@semA_cons _ _ _ _ _ _ _ _ (fun _ => rfl) (sem_int) (@semA_cons _ _ _ _ _ _ _ _ (fun _ => rfl) (sem_int) (@semA_cons _ _ _ _ _ _ _ _ (fun _ => rfl) (sem_int) (@semA_cons _ _ _ _ _ _ _ _ (fun _ => rfl) (sem_int) (@semA_cons _ _ _ _ _ _ _ _ (fun _ => rfl) (sem_int) (@semA_cons _ _ _ _ _ _ _ _ (fun _ => rfl) (sem_int) (@semA_cons _ _ _ _ _ _ _ _ (fun _ => rfl) (sem_int) (@semA_cons _ _ _ _ _ _ _ _ (fun _ => rfl) (sem_int) (semA_nil)))))))))))))) (@sem_idx _ _ _ _ _ _ _ _ _ (fun _ _ => rfl) (z_slot (by decide +kernel)) (sem_int))) (semA_nil))))) (semSs_cons (z_asg (by decide +kernel) (fun _ _ => rfl) (@sem_lst _ _ _ _ _ _ _ (semA_nil))) (semSs_cons (semS_for (fun _ _ => rfl) (z_r2 X.b_range (by decide +kernel) (fun _ => rfl) (fun _ => rfl) (sem_int) (z_slot (by decide +kernel))) (z_gn (by decide +kernel)) (semSs_cons (z_asg (by decide +kernel) (fun _ _ => rfl) (@sem_idx _ _ _ _ _ _ _ _ _ (fun _ _ => rfl) (@sem_lst _ _ _ _ _ _ _ (@semA_cons _ _ _ _ _ _ _ _ (fun _ => rfl) (sem_bin (opT_binG X.sp hk .Sub) (z_slot (by decide +kernel)) (sem_int)) (@semA_cons _ _ _ _ _ _ _ _ (fun _ => rfl) (sem_bin (opT_binG X.sp hk .Sub) (z_slot (by decide +kernel)) (sem_int)) (@semA_cons _ _ _ _ _ _ _ _ (fun _ => rfl) (sem_bin (opT_binG X.sp hk .Sub) (z_slot (by decide +kernel)) (sem_int)) (@semA_cons _ _ _ _ _ _ _ _ (fun _ => rfl) (sem_int) (@semA_cons _ _ _ _ _ _ _ _ (fun _ => rfl) (sem_bin (opT_binG X.sp hk .FloorDiv) (z_slot (by decide +kernel)) (sem_int)) (@semA_cons _ _ _ _ _ _ _ _ (fun _ => rfl) (sem_int) (semA_nil)))))))) (@sem_idx _ _ _ _ _ _ _ _ _ (fun _ _ => rfl) (z_slot (by decide +kernel)) (sem_bin (opT_binG X.sp hk .Mult) (sem_int) (z_slot (by decide +kernel)))))) (semSs_cons (semS_ite (semT_cmp (opT_cmpG X.sp hk .Lt) (by rfl) (@sem_idx _ _ _ _ _ _ _ _ _ (fun _ _ => rfl) (z_slot (by decide +kernel)) (sem_int)) (sem_int)) (semSs_cons (z_asg (by decide +kernel) (fun _ _ => rfl) (sem_bin (opT_binG X.sp hk .Sub) (z_slot (by decide +kernel)) (sem_int))) (semSs_nil)) (semSs_nil)) (semSs_cons (semS_ite (semT_cmp (opT_cmpG X.sp hk .Lt) (by rfl) (@sem_idx _ _ _ _ _ _ _ _ _ (fun _ _ => rfl) (z_slot (by decide +kernel)) (sem_bin (opT_binG X.sp hk .Sub) (sem_bin (opT_binG X.sp hk .Mult) (sem_int) (z_slot (by decide +kernel))) (sem_int))) (sem_int)) (semSs_cons (z_app (by decide +kernel) (by rfl) (fun _ => rfl) (@sem_tup _ _ _ _ _ _ _ _ (@semA_cons _ _ _ _ _ _ _ _ (fun _ => rfl) (z_slot (by decide +kernel)) (@semA_cons _ _ _ _ _ _ _ _ (fun _ => rfl) (z_slot (by decide +kernel)) (semA_nil))))) (semSs_nil)) (semSs_nil)) (semSs_nil))))) (semSs_cons (semS_ite (SemW.t (semW_and (semT_cmp (opT_cmpG X.sp hk .Gt) (by rfl) (z_slot (by decide +kernel)) (sem_int)) (semW_and1 (semT_cmp (opT_cmpG X.sp hk .Lt) (by rfl) (@sem_idx _ _ _ _ _ _ _ _ _ (fun _ _ => rfl) (z_slot (by decide +kernel)) (sem_int)) (sem_int))))) (semSs_cons (z_app (by decide +kernel) (by rfl) (fun _ => rfl) (@sem_tup _ _ _ _ _ _ _ _ (@semA_cons _ _ _ _ _ _ _ _ (fun _ => rfl) (sem_int) (@semA_cons _ _ _ _ _ _ _ _ (fun _ => rfl) (sem_bin (opT_binG X.sp hk .Sub) (z_slot (by decide +kernel)) (sem_int)) (semA_nil))))) (semSs_nil)) (semSs_nil)) (semSs_cons (semS_for (fun _ _ => rfl) (z_r1 X.b_range (by decide +kernel) (fun _ => rfl) (sem_int)) (z_gn (by decide +kernel)) (semSs_cons (z_asg (by decide +kernel) (fun _ _ => rfl) (sem_bin (opT_binG X.sp hk .Mod) (@sem_idx _ _ _ _ _ _ _ _ _ (fun _ _ => rfl) (z_slot (by decide +kernel)) (sem_bin (opT_binG X.sp hk .Add) (sem_int) (sem_bin (opT_binG X.sp hk .Mult) (sem_int) (z_slot (by decide +kernel))))) (z_slot (by decide +kernel)))) (semSs_cons (z_asg (by decide +kernel) (fun _ _ => rfl) (sem_bin (opT_binG X.sp hk .Mod) (@sem_idx _ _ _ _ _ _ _ _ _ (fun _ _ => rfl) (z_slot (by decide +kernel)) (sem_bin (opT_binG X.sp hk .Add) (sem_int) (sem_bin (opT_binG X.sp hk .Mult) (sem_int) (z_slot (by decide +kernel))))) (z_slot (by decide +kernel)))) (semSs_cons (semS_ite (SemW.t (semW_and (semT_cmp (opT_cmpG X.sp hk .Lt) (by rfl) (z_slot (by decide +kernel)) (z_slot (by decide +kernel))) (semW_and1 (semT_cmp (opT_cmpG X.sp hk .Gt) (by rfl) (@sem_idx _ _ _ _ _ _ _ _ _ (fun _ _ => rfl) (z_slot (by decide +kernel)) (sem_bin (opT_binG X.sp hk .Add) (sem_int) (sem_bin (opT_binG X.sp hk .Mult) (sem_int) (z_slot (by decide +kernel))))) (sem_int))))) (semSs_cons (z_app (by decide +kernel) (by rfl) (fun _ => rfl) (@sem_tup _ _ _ _ _ _ _ _ (@semA_cons _ _ _ _ _ _ _ _ (fun _ => rfl) (z_slot (by decide +kernel)) (@semA_cons _ _ _ _ _ _ _ _ (fun _ => rfl) (z_slot (by decide +kernel)) (semA_nil))))) (semSs_nil)) (semSs_nil)) (semSs_nil))))) (semSs_cons (z_asg (by decide +kernel) (fun _ _ => rfl) (@sem_lst _ _ _ _ _ _ _ (semA_nil))) (semSs_cons (semS_for (fun _ _ => rfl) (z_r1 X.b_range (by decide +kernel) (fun _ => rfl) (z_slot (by decide +kernel))) (z_gn (by decide +kernel)) (semSs_cons (semS_for (fun _ _ => rfl) (z_r2 X.b_range (by decide +kernel) (fun _ => rfl) (fun _ => rfl) (sem_bin (opT_binG X.sp hk .Add) (z_slot (by decide +kernel)) (sem_int)) (z_slot (by decide +kernel))) (z_gn (by decide +kernel)) (semSs_cons (semS_ite (semT_cmp (opT_cmpG X.sp hk .In) (by rfl) (@sem_tup _ _ _ _ _ _ _ _ (@semA_cons _ _ _ _ _ _ _ _ (fun _ => rfl) (z_slot (by decide +kernel)) (@semA_cons _ _ _ _ _ _ _ _ (fun _ => rfl) (z_slot (by decide +kernel)) (semA_nil)))) (z_slot (by decide +kernel))) (semSs_cons (z_app (by decide +kernel) (by rfl) (fun _ => rfl) (@sem_tup _ _ _ _ _ _ _ _ (@semA_cons _ _ _ _ _ _ _ _ (fun _ => rfl) (z_slot (by decide +kernel)) (@semA_cons _ _ _ _ _ _ _ _ (fun _ => rfl) (z_slot (by decide +kernel)) (semA_nil))))) (semSs_nil)) (semSs_nil)) (semSs_nil))) (semSs_nil))) (semSs_cons (semS_ret (@sem_lst _ _ _ _ _ _ _ (@semA_cons _ _ _ _ _ _ _ _ (fun _ => rfl) (z_slot (by decide +kernel)) (@semA_cons _ _ _ _ _ _ _ _ (fun _ => rfl) (z_slot (by decide +kernel)) (semA_nil))))) (semSs_nil))))))))
theorem t25 (X : Cn L k') (h1 : k' + 1 ≤ k) : SemSs L n25 (defSc s25) k (C8.fnBody s25) b25 :=
  have hk : k' ≤ k := Nat.le_of_succ_le h1
  semSs_cons (semS_ite (SemW.t (semW_and (semT_cmp (opT_cmpG X.sp hk .GtE) (by rfl) (@sem_idx _ _ _ _ _ _ _ _ _ (fun _ _ => rfl) (z_slot (by decide +kernel)) (sem_int)) (sem_int)) (semW_and1 (semT_cmp (opT_cmpG X.sp hk .LtE) (by rfl) (@sem_idx _ _ _ _ _ _ _ _ _ (fun _ _ => rfl) (z_slot (by decide +kernel)) (sem_int)) (sem_int))))) (semSs_cons (semS_ret (z_t (callG (by decide) callT_tuple) X.b_tuple (by decide +kernel) (by decide +kernel) (fun _ => rfl) (fun _ _ => rfl) (@semA_cons _ _ _ _ _ _ _ _ (fun _ => rfl) (z_lc (own := [("k", 2)]) (by decide +kernel) (fun _ _ => rfl) (by rfl) (by decide) (z_r1 X.b_range (by decide +kernel) (fun _ => rfl) (z_slot (by decide +kernel))) (z_gn (by decide +kernel)) (z_c0) (sem_bin (opT_binG X.sp hk .Mod) (z_t (callG (by decide) callT_int) X.b_int (by decide +kernel) (by decide +kernel) (fun _ => rfl) (fun _ _ => rfl) (@semA_cons _ _ _ _ _ _ _ _ (fun _ => rfl) (sem_bin (opT_binG X.sp hk .Add) (z_slot (by decide +kernel)) (@sem_idx _ _ _ _ _ _ _ _ _ (fun _ _ => rfl) (z_slot (by decide +kernel)) (sem_int))) (semA_nil))) (sem_int))) (semA_nil)))) (semSs_nil)) (semSs_nil)) (semSs_cons (semS_ite (semT_cmp (opT_cmpG X.sp hk .Eq) (by rfl) (@sem_idx _ _ _ _ _ _ _ _ _ (fun _ _ => rfl) (z_slot (by decide +kernel)) (sem_int)) (sem_int)) (semSs_cons (semS_ret (z_t (callG (by decide) callT_tuple) X.b_tuple (by decide +kernel) (by decide +kernel) (fun _ => rfl) (fun _ _ => rfl) (@semA_cons _ _ _ _ _ _ _ _ (fun _ => rfl) (z_lc (own := [("k", 2)]) (by decide +kernel) (fun _ _ => rfl) (by rfl) (by decide) (z_r1 X.b_range (by decide +kernel) (fun _ => rfl) (z_slot (by decide +kernel))) (z_gn (by decide +kernel)) (z_c0) (sem_bin (opT_binG X.sp hk .Mult) (sem_bin (opT_binG X.sp hk .Mod) (z_t (callG (by decide) callT_int) X.b_int (by decide +kernel) (by decide +kernel) (fun _ => rfl) (fun _ _ => rfl) (@semA_cons _ _ _ _ _ _ _ _ (fun _ => rfl) (sem_bin (opT_binG X.sp hk .Add) (z_slot (by decide +kernel)) (@sem_idx _ _ _ _ _ _ _ _ _ (fun _ _ => rfl) (z_slot (by decide +kernel)) (sem_int))) (semA_nil))) (sem_int)) (z_t (callG (by decide) callT_int) X.b_int (by decide +kernel) (by decide +kernel) (fun _ => rfl) (fun _ _ => rfl) (@semA_cons _ _ _ _ _ _ _ _ (fun _ => rfl) (sem_cmp (opT_cmpG X.sp hk .NotEq) (by rfl) (z_slot (by decide +kernel)) (sem_bin (opT_binG X.sp hk .Add) (@sem_idx _ _ _ _ _ _ _ _ _ (fun _ _ => rfl) (z_slot (by decide +kernel)) (sem_int)) (sem_int))) (semA_nil))))) (semA_nil)))) (semSs_nil)) (semSs_nil)) (semSs_cons (semS_ite (semT_cmp (opT_cmpG X.sp hk .Eq) (by rfl) (@sem_idx _ _ _ _ _ _ _ _ _ (fun _ _ => rfl) (z_slot (by decide +kernel)) (sem_int)) (sem_int)) (semSs_cons (semS_ret (z_t (callG (by decide) callT_tuple) X.b_tuple (by decide +kernel) (by decide +kernel) (fun _ => rfl) (fun _ _ => rfl) (@semA_cons _ _ _ _ _ _ _ _ (fun _ => rfl) (z_lc (own := [("k", 2)]) (by decide +kernel) (fun _ _ => rfl) (by rfl) (by decide) (z_r1 X.b_range (by decide +kernel) (fun _ => rfl) (z_slot (by decide +kernel))) (z_gn (by decide +kernel)) (z_c0) (z_t (callG (by decide) callT_int) X.b_int (by decide +kernel) (by decide +kernel) (fun _ => rfl) (fun _ _ => rfl) (@semA_cons _ _ _ _ _ _ _ _ (fun _ => rfl) (sem_cmp (opT_cmpG X.sp hk .Eq) (by rfl) (z_slot (by decide +kernel)) (@sem_idx _ _ _ _ _ _ _ _ _ (fun _ _ => rfl) (z_slot (by decide +kernel)) (sem_int))) (semA_nil)))) (semA_nil)))) (semSs_nil)) (semSs_nil)) (semSs_cons (semS_ret (z_t (callG (by decide) callT_tuple) X.b_tuple (by decide +kernel) (by decide +kernel) (fun _ => rfl) (fun _ _ => rfl) (@semA_cons _ _ _ _ _ _ _ _ (fun _ => rfl) (z_lc (own := [("k", 2)]) (by decide +kernel) (fun _ _ => rfl) (by rfl) (by decide) (z_r1 X.b_range (by decide +kernel) (fun _ => rfl) (z_slot (by decide +kernel))) (z_gn (by decide +kernel)) (z_c0) (@sem_idx _ _ _ _ _ _ _ _ _ (fun _ _ => rfl) (z_slot (by decide +kernel)) (sem_bin (opT_binG X.sp hk .Add) (sem_int) (z_slot (by decide +kernel))))) (semA_nil)))) (semSs_nil))))
theorem t26 (X : Cn L k') (h1 : k' + 1 ≤ k) : SemSs L n26 (defSc s26) k (C8.fnBody s26) b26 :=
  have hk : k' ≤ k := Nat.le_of_succ_le h1
  semSs_cons (z_asg (by decide +kernel) (fun _ _ => rfl) (z_call X.c__law_web hk (by decide +kernel) (fun _ => rfl) (fun _ _ => rfl) (@semA_cons _ _ _ _ _ _ _ _ (fun _ => rfl) (z_call X.c__law_digits hk (by decide +kernel) (fun _ => rfl) (fun _ _ => rfl) (@semA_cons _ _ _ _ _ _ _ _ (fun _ => rfl) (z_call X.c__law_cell hk (by decide +kernel) (fun _ => rfl) (fun _ _ => rfl) (@semA_cons _ _ _ _ _ _ _ _ (fun _ => rfl) (z_slot (by decide +kernel)) (@semA_cons _ _ _ _ _ _ _ _ (fun _ => rfl) (z_slot (by decide +kernel)) (semA_nil)))) (@semA_cons _ _ _ _ _ _ _ _ (fun _ => rfl) (sem_bin (opT_binG X.sp hk .Add) (sem_bin (opT_binG X.sp hk .Add) (sem_bin (opT_binG X.sp hk .Add) (@sem_lst _ _ _ _ _ _ _ (@semA_cons _ _ _ _ _ _ _ _ (fun _ => rfl) (sem_int) (semA_nil))) (sem_bin (opT_binG X.sp hk .Mult) (@sem_lst _ _ _ _ _ _ _ (@semA_cons _ _ _ _ _ _ _ _ (fun _ => rfl) (sem_int) (@semA_cons _ _ _ _ _ _ _ _ (fun _ => rfl) (sem_int) (semA_nil)))) (sem_int))) (@sem_lst _ _ _ _ _ _ _ (@semA_cons _ _ _ _ _ _ _ _ (fun _ => rfl) (sem_int) (semA_nil)))) (sem_bin (opT_binG X.sp hk .Mult) (@sem_lst _ _ _ _ _ _ _ (@semA_cons _ _ _ _ _ _ _ _ (fun _ => rfl) (sem_int) (@semA_cons _ _ _ _ _ _ _ _ (fun _ => rfl) (sem_int) (semA_nil)))) (sem_int))) (semA_nil)))) (@semA_cons _ _ _ _ _ _ _ _ (fun _ => rfl) (z_slot (by decide +kernel)) (semA_nil))))) (semSs_cons (z_asg (by decide +kernel) (fun _ _ => rfl) (z_call X.c__law_picture hk (by decide +kernel) (fun _ => rfl) (fun _ _ => rfl) (@semA_cons _ _ _ _ _ _ _ _ (fun _ => rfl) (z_call X.c__law_digits hk (by decide +kernel) (fun _ => rfl) (fun _ _ => rfl) (@semA_cons _ _ _ _ _ _ _ _ (fun _ => rfl) (z_call X.c__law_cell hk (by decide +kernel) (fun _ => rfl) (fun _ _ => rfl) (@semA_cons _ _ _ _ _ _ _ _ (fun _ => rfl) (z_slot (by decide +kernel)) (@semA_cons _ _ _ _ _ _ _ _ (fun _ => rfl) (sem_bin (opT_binG X.sp hk .Add) (z_slot (by decide +kernel)) (sem_int)) (semA_nil)))) (@semA_cons _ _ _ _ _ _ _ _ (fun _ => rfl) (sem_bin (opT_binG X.sp hk .Add) (@sem_lst _ _ _ _ _ _ _ (@semA_cons _ _ _ _ _ _ _ _ (fun _ => rfl) (sem_int) (@semA_cons _ _ _ _ _ _ _ _ (fun _ => rfl) (sem_int) (semA_nil)))) (sem_bin (opT_binG X.sp hk .Mult) (@sem_lst _ _ _ _ _ _ _ (@semA_cons _ _ _ _ _ _ _ _ (fun _ => rfl) (sem_int) (semA_nil))) (sem_int))) (semA_nil)))) (@semA_cons _ _ _ _ _ _ _ _ (fun _ => rfl) (@sem_idx _ _ _ _ _ _ _ _ _ (fun _ _ => rfl) (z_slot (by decide +kernel)) (sem_int)) (semA_nil))))) (semSs_cons (semS_ret (@sem_lst _ _ _ _ _ _ _ (@semA_cons _ _ _ _ _ _ _ _ (fun _ => rfl) (@sem_idx _ _ _ _ _ _ _ _ _ (fun _ _ => rfl) (z_slot (by decide +kernel)) (sem_int)) (@semA_cons _ _ _ _ _ _ _ _ (fun _ => rfl) (@sem_idx _ _ _ _ _ _ _ _ _ (fun _ _ => rfl) (z_slot (by decide +kernel)) (sem_int)) (@semA_cons _ _ _ _ _ _ _ _ (fun _ => rfl) (z_slot (by decide +kernel)) (semA_nil)))))) (semSs_nil)))
theorem t27 (X : Cn L k') (h1 : k' + 1 ≤ k) : SemSs L n27 (defSc s27) k (C8.fnBody s27) b27 :=
  have hk : k' ≤ k := Nat.le_of_succ_le h1
  semSs_cons (z_asgLc (own := [("k", 4)]) (by decide +kernel) (by decide +kernel)  (by decide +kernel) (fun _ _ => rfl) (by rfl) (by decide) (z_r1 X.b_range (by decide +kernel) (fun _ => rfl) (z_slot (by decide +kernel))) (z_gn (by decide +kernel)) (z_c0) (@sem_lst _ _ _ _ _ _ _ (semA_nil))) (semSs_cons (semS_for (fun _ _ => rfl) (semI_lst (z_slot (by decide +kernel))) (z_gn (by decide +kernel)) (semSs_cons (z_app2 (by decide +kernel) (fun _ _ => rfl) (by rfl) (fun _ => rfl) (fun _ => rfl) (@sem_idx _ _ _ _ _ _ _ _ _ (fun _ _ => rfl) (z_slot (by decide +kernel)) (sem_int)) (@sem_idx _ _ _ _ _ _ _ _ _ (fun _ _ => rfl) (z_slot (by decide +kernel)) (sem_int))) (semSs_cons (z_app2 (by decide +kernel) (fun _ _ => rfl) (by rfl) (fun _ => rfl) (fun _ => rfl) (@sem_idx _ _ _ _ _ _ _ _ _ (fun _ _ => rfl) (z_slot (by decide +kernel)) (sem_int)) (@sem_idx _ _ _ _ _ _ _ _ _ (fun _ _ => rfl) (z_slot (by decide +kernel)) (sem_int))) (semSs_nil)))) (semSs_cons (semS_ret (z_lc (own := [("row", 5)]) (by decide +kernel) (fun _ _ => rfl) (by rfl) (by decide) (semI_lst (z_slot (by decide +kernel))) (z_gn (by decide +kernel)) (z_c0) (z_b (callG (by decide) callT_sorted) X.b_sorted (by decide +kernel) (by decide +kernel) (fun _ => rfl) (fun _ _ => rfl) (@semA_cons _ _ _ _ _ _ _ _ (fun _ => rfl) (z_slot (by decide +kernel)) (semA_nil))))) (semSs_nil)))
theorem t28 (X : Cn L k') (h1 : k' + 1 ≤ k) : SemSs L n28 (defSc s28) k (C8.fnBody s28) b28 :=
  have hk : k' ≤ k := Nat.le_of_succ_le h1
  semSs_cons (z_asg (by decide +kernel) (fun _ _ => rfl) (@sem_lst _ _ _ _ _ _ _ (semA_nil))) (semSs_cons (semS_for (fun _ _ => rfl) (z_r1 X.b_range (by decide +kernel) (fun _ => rfl) (z_b (callT_lenG X.sp h1) X.b_len (by decide +kernel) (by decide +kernel) (fun _ => rfl) (fun _ _ => rfl) (@semA_cons _ _ _ _ _ _ _ _ (fun _ => rfl) (z_slot (by decide +kernel)) (semA_nil)))) (z_gn (by decide +kernel)) (semSs_cons (z_asg (by decide +kernel) (fun _ _ => rfl) (@sem_idx _ _ _ _ _ _ _ _ _ (fun _ _ => rfl) (z_slot (by decide +kernel)) (z_slot (by decide +kernel)))) (semSs_cons (semS_ite (semT_cmp (opT_cmpG X.sp hk .Gt) (by rfl) (z_slot (by decide +kernel)) (sem_int)) (semSs_cons (z_app (by decide +kernel) (by rfl) (fun _ => rfl) (@sem_idx _ _ _ _ _ _ _ _ _ (fun _ _ => rfl) (@sem_lst _ _ _ _ _ _ _ (@semA_cons _ _ _ _ _ _ _ _ (fun _ => rfl) (sem_int) (@semA_cons _ _ _ _ _ _ _ _ (fun _ => rfl) (sem_int) (@semA_cons _ _ _ _ _ _ _ _ (fun _ => rfl) (sem_int) (semA_nil))))) (z_slot (by decide +kernel)))) (semSs_nil)) (semSs_cons (z_asgLc (own := [("other", 7)]) (by decide +kernel) (by decide +kernel)  (by decide +kernel) (fun _ _ => rfl) (by rfl) (by decide) (semI_lst (@sem_idx _ _ _ _ _ _ _ _ _ (fun _ _ => rfl) (z_slot (by decide +kernel)) (z_slot (by decide +kernel)))) (z_gn (by decide +kernel)) (z_c1 (semT_cmp (opT_cmpG X.sp hk .Eq) (by rfl) (@sem_idx _ _ _ _ _ _ _ _ _ (fun _ _ => rfl) (z_slot (by decide +kernel)) (z_slot (by decide +kernel))) (sem_int))) (z_slot (by decide +kernel))) (semSs_cons (z_app (by decide +kernel) (by rfl) (fun _ => rfl) (z_t (callG (by decide) callT_int) X.b_int (by decide +kernel) (by decide +kernel) (fun _ => rfl) (fun _ _ => rfl) (@semA_cons _ _ _ _ _ _ _ _ (fun _ => rfl) (sem_or (sem_cmp (opT_cmpG X.sp hk .Gt) (by rfl) (z_b (callT_lenG X.sp h1) X.b_len (by decide +kernel) (by decide +kernel) (fun _ => rfl) (fun _ _ => rfl) (@semA_cons _ _ _ _ _ _ _ _ (fun _ => rfl) (z_slot (by decide +kernel)) (semA_nil))) (sem_int)) (sem_one (sem_cmp (opT_cmpG X.sp hk .In) (by rfl) (z_slot (by decide +kernel)) (z_slot (by decide +kernel))))) (semA_nil)))) (semSs_nil)))) (semSs_nil)))) (semSs_cons (semS_ret (z_t (callG (by decide) callT_tuple) X.b_tuple (by decide +kernel) (by decide +kernel) (fun _ => rfl) (fun _ _ => rfl) (@semA_cons _ _ _ _ _ _ _ _ (fun _ => rfl) (z_slot (by decide +kernel)) (semA_nil)))) (semSs_nil)))
theorem t29 (X : Cn L k') (h1 : k' + 1 ≤ k) : SemSs L n29 (defSc s29) k (C8.fnBody s29) b29 :=
  have hk : k' ≤ k := Nat.le_of_succ_le h1
  semSs_cons (semS_ret (sem_and (z_isi X.b_isinstance X.b_tuple (by decide +kernel) (by decide +kernel) (by intro c h; cases h) (fun _ => rfl) (z_slot (by decide +kernel))) (sem_and (sem_cmp (opT_cmpG X.sp hk .Eq) (by rfl) (z_b (callT_lenG X.sp h1) X.b_len (by decide +kernel) (by decide +kernel) (fun _ => rfl) (fun _ _ => rfl) (@semA_cons _ _ _ _ _ _ _ _ (fun _ => rfl) (z_slot (by decide +kernel)) (semA_nil))) (z_slot (by decide +kernel))) (sem_one (sem_cmp (opT_cmpG X.sp hk .Eq) (by rfl) (z_b (callT_lenG X.sp h1) X.b_len (by decide +kernel) (by decide +kernel) (fun _ => rfl) (fun _ _ => rfl) (@semA_cons _ _ _ _ _ _ _ _ (fun _ => rfl) (z_lc (own := [("x", 2)]) (by decide +kernel) (fun _ _ => rfl) (by rfl) (by decide) (semI_lst (z_slot (by decide +kernel))) (z_gn (by decide +kernel)) (z_c1 (semT_not (semT_plain (z_call X.c__law_whole hk (by decide +kernel) (fun _ => rfl) (fun _ _ => rfl) (@semA_cons _ _ _ _ _ _ _ _ (fun _ => rfl) (z_slot (by decide +kernel)) (semA_nil))) (fun _ _ => rfl)))) (z_slot (by decide +kernel))) (semA_nil))) (sem_int)))))) (semSs_nil)
theorem t30 (X : Cn L k') (h1 : k' + 1 ≤ k) : SemSs L n30 (defSc s30) k (C8.fnBody s30) b30 :=
  have hk : k' ≤ k := Nat.le_of_succ_le h1
  semSs_cons (semS_ite (SemW.t (semW_or (semT_not (semT_plain (z_isiC (X.ins 1) X.b_isinstance X.m_Scene (by decide +kernel) (fun _ => rfl) (z_slot (by decide +kernel))) (fun _ _ => rfl))) (semW_or1 (semT_not (semT_cmp (opT_cmpG X.sp hk .Eq) (by rfl) (z_fld X.ok X.nm (by rfl) (fun _ => rfl) (z_slot (by decide +kernel))) (z_slot (by decide +kernel))))))) (semSs_cons (semS_ret (sem_bl)) (semSs_nil)) (semSs_nil)) (semSs_cons (semS_ret (sem_and (z_call X.c__law_row hk (by decide +kernel) (fun _ => rfl) (fun _ _ => rfl) (@semA_cons _ _ _ _ _ _ _ _ (fun _ => rfl) (z_fld X.ok X.nm (by rfl) (fun _ => rfl) (z_slot (by decide +kernel))) (@semA_cons _ _ _ _ _ _ _ _ (fun _ => rfl) (z_b (callT_lenG X.sp h1) X.b_len (by decide +kernel) (by decide +kernel) (fun _ => rfl) (fun _ _ => rfl) (@semA_cons _ _ _ _ _ _ _ _ (fun _ => rfl) (z_slot (by decide +kernel)) (semA_nil))) (semA_nil)))) (sem_one (sem_cmp (opT_cmpG X.sp hk .Eq) (by rfl) (z_fld X.ok X.nm (by rfl) (fun _ => rfl) (z_slot (by decide +kernel))) (z_t (callG (by decide) callT_tuple) X.b_tuple (by decide +kernel) (by decide +kernel) (fun _ => rfl) (fun _ _ => rfl) (@semA_cons _ _ _ _ _ _ _ _ (fun _ => rfl) (z_slot (by decide +kernel)) (semA_nil))))))) (semSs_nil))
theorem t31 (X : Cn L k') (h1 : k' + 1 ≤ k) : SemSs L n31 (defSc s31) k (C8.fnBody s31) b31 :=
  have hk : k' ≤ k := Nat.le_of_succ_le h1
  semSs_cons (z_asg (by decide +kernel) (fun _ _ => rfl) (@sem_lst _ _ _ _ _ _ _ (semA_nil))) (semSs_cons (semS_for (fun _ _ => rfl) (z_r1 X.b_range (by decide +kernel) (fun _ => rfl) (z_b (callT_lenG X.sp h1) X.b_len (by decide +kernel) (by decide +kernel) (fun _ => rfl) (fun _ _ => rfl) (@semA_cons _ _ _ _ _ _ _ _ (fun _ => rfl) (z_slot (by decide +kernel)) (semA_nil)))) (z_gn (by decide +kernel)) (semSs_cons (z_asg (by decide +kernel) (fun _ _ => rfl) (@sem_idx _ _ _ _ _ _ _ _ _ (fun _ _ => rfl) (z_slot (by decide +kernel)) (z_slot (by decide +kernel)))) (semSs_cons (z_asgLc (own := [("other", 7)]) (by decide +kernel) (by decide +kernel)  (by decide +kernel) (fun _ _ => rfl) (by rfl) (by decide) (semI_lst (@sem_idx _ _ _ _ _ _ _ _ _ (fun _ _ => rfl) (z_slot (by decide +kernel)) (z_slot (by decide +kernel)))) (z_gn (by decide +kernel)) (z_c1 (semT_cmp (opT_cmpG X.sp hk .Eq) (by rfl) (@sem_idx _ _ _ _ _ _ _ _ _ (fun _ _ => rfl) (z_slot (by decide +kernel)) (z_slot (by decide +kernel))) (sem_int))) (z_slot (by decide +kernel))) (semSs_cons (semS_ite (SemW.t (semW_and (semT_cmp (opT_cmpG X.sp hk .Eq) (by rfl) (z_slot (by decide +kernel)) (sem_int)) (semW_and1 (SemW.t (semW_or (semT_cmp (opT_cmpG X.sp hk .Gt) (by rfl) (z_b (callT_lenG X.sp h1) X.b_len (by decide +kernel) (by decide +kernel) (fun _ => rfl) (fun _ _ => rfl) (@semA_cons _ _ _ _ _ _ _ _ (fun _ => rfl) (z_slot (by decide +kernel)) (semA_nil))) (sem_int)) (semW_or1 (semT_cmp (opT_cmpG X.sp hk .In) (by rfl) (z_slot (by decide +kernel)) (z_slot (by decide +kernel))))))))) (semSs_cons (z_app (by decide +kernel) (by rfl) (fun _ => rfl) (sem_int)) (semSs_nil)) (semSs_cons (z_app (by decide +kernel) (by rfl) (fun _ => rfl) (@sem_idx _ _ _ _ _ _ _ _ _ (fun _ _ => rfl) (@sem_lst _ _ _ _ _ _ _ (@semA_cons _ _ _ _ _ _ _ _ (fun _ => rfl) (sem_int) (@semA_cons _ _ _ _ _ _ _ _ (fun _ => rfl) (sem_int) (@semA_cons _ _ _ _ _ _ _ _ (fun _ => rfl) (sem_int) (semA_nil))))) (z_slot (by decide +kernel)))) (semSs_nil))) (semSs_nil))))) (semSs_cons (semS_ret (z_t (callG (by decide) callT_tuple) X.b_tuple (by decide +kernel) (by decide +kernel) (fun _ => rfl) (fun _ _ => rfl) (@semA_cons _ _ _ _ _ _ _ _ (fun _ => rfl) (z_slot (by decide +kernel)) (semA_nil)))) (semSs_nil)))
theorem t32 (X : Cn L k') (h1 : k' + 1 ≤ k) : SemSs L n32 (defSc s32) k (C8.fnBody s32) b32 :=
  have hk : k' ≤ k := Nat.le_of_succ_le h1
  semSs_cons (semS_ret (z_t (callG (by decide) callT_tuple) X.b_tuple (by decide +kernel) (by decide +kernel) (fun _ => rfl) (fun _ _ => rfl) (@semA_cons _ _ _ _ _ _ _ _ (fun _ => rfl) (z_lc (own := [("state", 1)]) (by decide +kernel) (fun _ _ => rfl) (by rfl) (by decide) (semI_lst (z_slot (by decide +kernel))) (z_gn (by decide +kernel)) (z_c0) (@sem_idx _ _ _ _ _ _ _ _ _ (fun _ _ => rfl) (@sem_lst _ _ _ _ _ _ _ (@semA_cons _ _ _ _ _ _ _ _ (fun _ => rfl) (sem_int) (@semA_cons _ _ _ _ _ _ _ _ (fun _ => rfl) (sem_int) (@semA_cons _ _ _ _ _ _ _ _ (fun _ => rfl) (sem_int) (semA_nil))))) (z_slot (by decide +kernel)))) (semA_nil)))) (semSs_nil)
theorem t33 (X : Cn L k') (h1 : k' + 1 ≤ k) : SemSs L n33 (defSc s33) k (C8.fnBody s33) b33 :=
  have hk : k' ≤ k := Nat.le_of_succ_le h1
  semSs_cons (z_asg (by decide +kernel) (fun _ _ => rfl) (sem_bin (opT_binG X.sp hk .Add) (sem_int) (@sem_idx _ _ _ _ _ _ _ _ _ (fun _ _ => rfl) (z_slot (by decide +kernel)) (sem_int)))) (semSs_cons (z_asgLc (own := [("k", 5)]) (by decide +kernel) (by decide +kernel)  (by decide +kernel) (fun _ _ => rfl) (by rfl) (by decide) (z_r1 X.b_range (by decide +kernel) (fun _ => rfl) (sem_bin (opT_binG X.sp hk .Sub) (z_slot (by decide +kernel)) (sem_int))) (z_gn (by decide +kernel)) (z_c1 (semT_cmp (opT_cmpG X.sp hk .Gt) (by rfl) (@sem_idx _ _ _ _ _ _ _ _ _ (fun _ _ => rfl) (z_slot (by decide +kernel)) (sem_bin (opT_binG X.sp hk .Add) (sem_int) (sem_bin (opT_binG X.sp hk .Mult) (sem_int) (z_slot (by decide +kernel))))) (sem_int))) (@sem_tup _ _ _ _ _ _ _ _ (@semA_cons _ _ _ _ _ _ _ _ (fun _ => rfl) (z_slot (by decide +kernel)) (@semA_cons _ _ _ _ _ _ _ _ (fun _ => rfl) (sem_bin (opT_binG X.sp hk .Add) (z_slot (by decide +kernel)) (sem_int)) (semA_nil))))) (semSs_cons (z_asg (by decide +kernel) (fun _ _ => rfl) (sem_bin (opT_binG X.sp hk .Mod) (@sem_idx _ _ _ _ _ _ _ _ _ (fun _ _ => rfl) (z_slot (by decide +kernel)) (sem_int)) (z_slot (by decide +kernel)))) (semSs_cons (z_asg (by decide +kernel) (fun _ _ => rfl) (sem_bin (opT_binG X.sp hk .Mod) (@sem_idx _ _ _ _ _ _ _ _ _ (fun _ _ => rfl) (z_slot (by decide +kernel)) (sem_int)) (z_slot (by decide +kernel)))) (semSs_cons (semS_ite (semT_cmp (opT_cmpG X.sp hk .Lt) (by rfl) (sem_bin (opT_binG X.sp hk .Add) (z_slot (by decide +kernel)) (sem_int)) (z_slot (by decide +kernel))) (semSs_cons (z_app (by decide +kernel) (by rfl) (fun _ => rfl) (@sem_tup _ _ _ _ _ _ _ _ (@semA_cons _ _ _ _ _ _ _ _ (fun _ => rfl) (z_slot (by decide +kernel)) (@semA_cons _ _ _ _ _ _ _ _ (fun _ => rfl) (z_slot (by decide +kernel)) (semA_nil))))) (semSs_nil)) (semSs_nil)) (semSs_cons (semS_ret (@sem_lst _ _ _ _ _ _ _ (@semA_cons _ _ _ _ _ _ _ _ (fun _ => rfl) (z_slot (by decide +kernel)) (@semA_cons _ _ _ _ _ _ _ _ (fun _ => rfl) (z_slot (by decide +kernel)) (@semA_cons _ _ _ _ _ _ _ _ (fun _ => rfl) (z_t (callG (by decide) callT_tuple) X.b_tuple (by decide +kernel) (by decide +kernel) (fun _ => rfl) (fun _ _ => rfl) (@semA_cons _ _ _ _ _ _ _ _ (fun _ => rfl) (z_lc (own := [("k", 5)]) (by decide +kernel) (fun _ _ => rfl) (by rfl) (by decide) (z_r1 X.b_range (by decide +kernel) (fun _ => rfl) (z_slot (by decide +kernel))) (z_gn (by decide +kernel)) (z_c0) (@sem_idx _ _ _ _ _ _ _ _ _ (fun _ _ => rfl) (z_slot (by decide +kernel)) (sem_bin (opT_binG X.sp hk .Add) (sem_int) (sem_bin (opT_binG X.sp hk .Mult) (sem_int) (z_slot (by decide +kernel)))))) (semA_nil))) (semA_nil)))))) (semSs_nil))))))
theorem t34 (X : Cn L k') (h1 : k' + 1 ≤ k) : SemSs L n34 (defSc s34) k (C8.fnBody s34) b34 :=
  have hk : k' ≤ k := Nat.le_of_succ_le h1
  semSs_cons (z_asg (by decide +kernel) (fun _ _ => rfl) (z_call X.c__law_back hk (by decide +kernel) (fun _ => rfl) (fun _ _ => rfl) (@semA_cons _ _ _ _ _ _ _ _ (fun _ => rfl) (z_slot (by decide +kernel)) (@semA_cons _ _ _ _ _ _ _ _ (fun _ => rfl) (z_slot (by decide +kernel)) (@semA_cons _ _ _ _ _ _ _ _ (fun _ => rfl) (z_slot (by decide +kernel)) (semA_nil)))))) (semSs_cons (semS_ite (semT_cmp (opT_cmpG X.sp hk .NotEq) (by rfl) (z_slot (by decide +kernel)) (z_call X.c__law_mirror hk (by decide +kernel) (fun _ => rfl) (fun _ _ => rfl) (@semA_cons _ _ _ _ _ _ _ _ (fun _ => rfl) (z_call X.c__law_step hk (by decide +kernel) (fun _ => rfl) (fun _ _ => rfl) (@semA_cons _ _ _ _ _ _ _ _ (fun _ => rfl) (z_slot (by decide +kernel)) (@semA_cons _ _ _ _ _ _ _ _ (fun _ => rfl) (z_call X.c__law_mirror hk (by decide +kernel) (fun _ => rfl) (fun _ _ => rfl) (@semA_cons _ _ _ _ _ _ _ _ (fun _ => rfl) (z_slot (by decide +kernel)) (semA_nil))) (@semA_cons _ _ _ _ _ _ _ _ (fun _ => rfl) (z_slot (by decide +kernel)) (semA_nil))))) (semA_nil)))) (semSs_cons (semS_ret (sem_bl)) (semSs_nil)) (semSs_nil)) (semSs_cons (z_asg (by decide +kernel) (fun _ _ => rfl) (z_t (callG (by decide) callT_list) X.b_list (by decide +kernel) (by decide +kernel) (fun _ => rfl) (fun _ _ => rfl) (@semA_cons _ _ _ _ _ _ _ _ (fun _ => rfl) (z_slot (by decide +kernel)) (semA_nil)))) (semSs_cons (semS_ite (SemW.t (semW_or (semT_not (semT_plain (z_call X.c__law_is_scene hk (by decide +kernel) (fun _ => rfl) (fun _ _ => rfl) (@semA_cons _ _ _ _ _ _ _ _ (fun _ => rfl) (z_call X.c_back hk (by decide +kernel) (fun _ => rfl) (fun _ _ => rfl) (@semA_cons _ _ _ _ _ _ _ _ (fun _ => rfl) (z_slot (by decide +kernel)) (@semA_cons _ _ _ _ _ _ _ _ (fun _ => rfl) (z_slot (by decide +kernel)) (semA_nil)))) (@semA_cons _ _ _ _ _ _ _ _ (fun _ => rfl) (z_slot (by decide +kernel)) (@semA_cons _ _ _ _ _ _ _ _ (fun _ => rfl) (z_slot (by decide +kernel)) (semA_nil))))) (fun _ _ => rfl))) (semW_or1 (semT_cmp (opT_cmpG X.sp hk .NotEq) (by rfl) (z_slot (by decide +kernel)) (z_slot (by decide +kernel)))))) (semSs_cons (semS_ret (sem_bl)) (semSs_nil)) (semSs_nil)) (semSs_cons (semS_ite (semT_not (semT_plain (z_call X.c__law_is_scene hk (by decide +kernel) (fun _ => rfl) (fun _ _ => rfl) (@semA_cons _ _ _ _ _ _ _ _ (fun _ => rfl) (z_callD X.d_back_1 hk (by decide +kernel) (fun _ => rfl) (fun _ _ => rfl) (@semA_cons _ _ _ _ _ _ _ _ (fun _ => rfl) (z_slot (by decide +kernel)) (semA_nil))) (@semA_cons _ _ _ _ _ _ _ _ (fun _ => rfl) (z_slot (by decide +kernel)) (@semA_cons _ _ _ _ _ _ _ _ (fun _ => rfl) (z_call X.c__law_back hk (by decide +kernel) (fun _ => rfl) (fun _ _ => rfl) (@semA_cons _ _ _ _ _ _ _ _ (fun _ => rfl) (z_slot (by decide +kernel)) (@semA_cons _ _ _ _ _ _ _ _ (fun _ => rfl) (z_slot (by decide +kernel)) (@semA_cons _ _ _ _ _ _ _ _ (fun _ => rfl) (@sem_lst _ _ _ _ _ _ _ (semA_nil)) (semA_nil))))) (semA_nil))))) (fun _ _ => rfl))) (semSs_cons (semS_ret (sem_bl)) (semSs_nil)) (semSs_nil)) (semSs_cons (semS_ite (semT_not (semT_plain (z_call X.c__law_is_scene hk (by decide +kernel) (fun _ => rfl) (fun _ _ => rfl) (@semA_cons _ _ _ _ _ _ _ _ (fun _ => rfl) (z_callK (es' := .cons (.slot 0) (.nil)) (kw' := .cons (.blt .tuple (.cons (.bin .Add (.slot 4) (.slot 4)) (.nil))) (.nil)) X.kw_back_1 hk (by decide +kernel) rfl (fun _ => rfl) (fun _ _ => rfl) (fun _ _ => rfl) (fun _ _ => rfl) rfl rfl rfl rfl (@semA_cons _ _ _ _ _ _ _ _ (fun _ => rfl) (z_slot (by decide +kernel)) (semA_nil)) (semK_cons (z_t (callG (by decide) callT_tuple) X.b_tuple (by decide +kernel) (by decide +kernel) (fun _ => rfl) (fun _ _ => rfl) (@semA_cons _ _ _ _ _ _ _ _ (fun _ => rfl) (sem_bin (opT_binG X.sp hk .Add) (z_slot (by decide +kernel)) (z_slot (by decide +kernel))) (semA_nil))) (semK_nil))) (@semA_cons _ _ _ _ _ _ _ _ (fun _ => rfl) (z_slot (by decide +kernel)) (@semA_cons _ _ _ _ _ _ _ _ (fun _ => rfl) (z_slot (by decide +kernel)) (semA_nil))))) (fun _ _ => rfl))) (semSs_cons (semS_ret (sem_bl)) (semSs_nil)) (semSs_nil)) (semSs_cons (semS_ret (sem_and (z_call X.c__law_is_scene hk (by decide +kernel) (fun _ => rfl) (fun _ _ => rfl) (@semA_cons _ _ _ _ _ _ _ _ (fun _ => rfl) (z_slot (by decide +kernel)) (@semA_cons _ _ _ _ _ _ _ _ (fun _ => rfl) (z_slot (by decide +kernel)) (@semA_cons _ _ _ _ _ _ _ _ (fun _ => rfl) (z_slot (by decide +kernel)) (semA_nil))))) (sem_one (z_call X.c__law_is_scene hk (by decide +kernel) (fun _ => rfl) (fun _ _ => rfl) (@semA_cons _ _ _ _ _ _ _ _ (fun _ => rfl) (z_call X.c_back hk (by decide +kernel) (fun _ => rfl) (fun _ _ => rfl) (@semA_cons _ _ _ _ _ _ _ _ (fun _ => rfl) (z_slot (by decide +kernel)) (@semA_cons _ _ _ _ _ _ _ _ (fun _ => rfl) (@sem_tup _ _ _ _ _ _ _ _ (semA_nil)) (semA_nil)))) (@semA_cons _ _ _ _ _ _ _ _ (fun _ => rfl) (z_slot (by decide +kernel)) (@semA_cons _ _ _ _ _ _ _ _ (fun _ => rfl) (z_call X.c__law_back hk (by decide +kernel) (fun _ => rfl) (fun _ _ => rfl) (@semA_cons _ _ _ _ _ _ _ _ (fun _ => rfl) (z_slot (by decide +kernel)) (@semA_cons _ _ _ _ _ _ _ _ (fun _ => rfl) (z_slot (by decide +kernel)) (@semA_cons _ _ _ _ _ _ _ _ (fun _ => rfl) (@sem_lst _ _ _ _ _ _ _ (semA_nil)) (semA_nil))))) (semA_nil)))))))) (semSs_nil)))))))
theorem t35 (X : Cn L k') (h1 : k' + 1 ≤ k) : SemSs L n35 (defSc s35) k (C8.fnBody s35) b35 :=
  have hk : k' ≤ k := Nat.le_of_succ_le h1
  semSs_cons (z_asg (by decide +kernel) (fun _ _ => rfl) (z_call X.c__law_scene hk (by decide +kernel) (fun _ => rfl) (fun _ _ => rfl) (@semA_cons _ _ _ _ _ _ _ _ (fun _ => rfl) (z_slot (by decide +kernel)) (@semA_cons _ _ _ _ _ _ _ _ (fun _ => rfl) (sem_int) (@semA_cons _ _ _ _ _ _ _ _ (fun _ => rfl) (sem_int) (semA_nil)))))) (semSs_cons (z_asg (by decide +kernel) (fun _ _ => rfl) (z_call X.c__law_digits hk (by decide +kernel) (fun _ => rfl) (fun _ _ => rfl) (@semA_cons _ _ _ _ _ _ _ _ (fun _ => rfl) (z_call X.c__law_cell hk (by decide +kernel) (fun _ => rfl) (fun _ _ => rfl) (@semA_cons _ _ _ _ _ _ _ _ (fun _ => rfl) (z_slot (by decide +kernel)) (@semA_cons _ _ _ _ _ _ _ _ (fun _ => rfl) (sem_int) (semA_nil)))) (@semA_cons _ _ _ _ _ _ _ _ (fun _ => rfl) (sem_bin (opT_binG X.sp hk .Add) (sem_bin (opT_binG X.sp hk .Add) (@sem_lst _ _ _ _ _ _ _ (@semA_cons _ _ _ _ _ _ _ _ (fun _ => rfl) (sem_int) (@semA_cons _ _ _ _ _ _ _ _ (fun _ => rfl) (sem_int) (semA_nil)))) (sem_bin (opT_binG X.sp hk .Mult) (@sem_lst _ _ _ _ _ _ _ (@semA_cons _ _ _ _ _ _ _ _ (fun _ => rfl) (sem_int) (semA_nil))) (sem_int))) (@sem_lst _ _ _ _ _ _ _ (@semA_cons _ _ _ _ _ _ _ _ (fun _ => rfl) (sem_int) (semA_nil)))) (semA_nil))))) (semSs_cons (semS_ite (semT_cmp (opT_cmpG X.sp hk .Eq) (by rfl) (@sem_idx _ _ _ _ _ _ _ _ _ (fun _ _ => rfl) (z_slot (by decide +kernel)) (sem_int)) (sem_int)) (semSs_cons (z_asg (by decide +kernel) (fun _ _ => rfl) (z_call X.c__law_thread hk (by decide +kernel) (fun _ => rfl) (fun _ _ => rfl) (@semA_cons _ _ _ _ _ _ _ _ (fun _ => rfl) (z_call X.c__law_digits hk (by decide +kernel) (fun _ => rfl) (fun _ _ => rfl) (@semA_cons _ _ _ _ _ _ _ _ (fun _ => rfl) (z_call X.c__law_cell hk (by decide +kernel) (fun _ => rfl) (fun _ _ => rfl) (@semA_cons _ _ _ _ _ _ _ _ (fun _ => rfl) (z_slot (by decide +kernel)) (@semA_cons _ _ _ _ _ _ _ _ (fun _ => rfl) (sem_int) (semA_nil)))) (@semA_cons _ _ _ _ _ _ _ _ (fun _ => rfl) (sem_bin (opT_binG X.sp hk .Add) (@sem_lst _ _ _ _ _ _ _ (@semA_cons _ _ _ _ _ _ _ _ (fun _ => rfl) (sem_int) (@semA_cons _ _ _ _ _ _ _ _ (fun _ => rfl) (sem_int) (@semA_cons _ _ _ _ _ _ _ _ (fun _ => rfl) (sem_int) (semA_nil))))) (sem_bin (opT_binG X.sp hk .Mult) (@sem_lst _ _ _ _ _ _ _ (@semA_cons _ _ _ _ _ _ _ _ (fun _ => rfl) (sem_int) (@semA_cons _ _ _ _ _ _ _ _ (fun _ => rfl) (sem_int) (semA_nil)))) (sem_int))) (semA_nil)))) (semA_nil)))) (semSs_nil)) (semSs_nil)) (semSs_cons (z_asg (by decide +kernel) (fun _ _ => rfl) (sem_bin (opT_binG X.sp hk .Mult) (@sem_idx _ _ _ _ _ _ _ _ _ (fun _ _ => rfl) (z_slot (by decide +kernel)) (sem_int)) (z_t (callG (by decide) callT_int) X.b_int (by decide +kernel) (by decide +kernel) (fun _ => rfl) (fun _ _ => rfl) (@semA_cons _ _ _ _ _ _ _ _ (fun _ => rfl) (sem_cmp (opT_cmpG X.sp hk .Gt) (by rfl) (@sem_idx _ _ _ _ _ _ _ _ _ (fun _ _ => rfl) (z_slot (by decide +kernel)) (sem_int)) (sem_int)) (semA_nil))))) (semSs_cons (z_asgLc (own := [("line", 10)]) (by decide +kernel) (by decide +kernel)  (by decide +kernel) (fun _ _ => rfl) (by rfl) (by decide) (semI_lst (@sem_idx _ _ _ _ _ _ _ _ _ (fun _ _ => rfl) (z_slot (by decide +kernel)) (sem_int))) (z_gn (by decide +kernel)) (z_c1 (semT_cmp (opT_cmpG X.sp hk .Gt) (by rfl) (z_slot (by decide +kernel)) (sem_int))) (z_slot (by decide +kernel))) (semSs_cons (z_asg (by decide +kernel) (fun _ _ => rfl) (sem_sl (@sem_idx _ _ _ _ _ _ _ _ _ (fun _ _ => rfl) (z_slot (by decide +kernel)) (sem_int)) (rfl) (⟨(by intro h; cases h), z_slot (by decide +kernel)⟩))) (semSs_cons (z_asg (by decide +kernel) (fun _ _ => rfl) (z_call X.c__law_near hk (by decide +kernel) (fun _ => rfl) (fun _ _ => rfl) (@semA_cons _ _ _ _ _ _ _ _ (fun _ => rfl) (z_slot (by decide +kernel)) (@semA_cons _ _ _ _ _ _ _ _ (fun _ => rfl) (z_slot (by decide +kernel)) (semA_nil))))) (semSs_cons (z_asg (by decide +kernel) (fun _ _ => rfl) (z_mk X.k_Web h1 (by decide +kernel) (fun _ => rfl) (fun _ _ => rfl) (@semA_cons _ _ _ _ _ _ _ _ (fun _ => rfl) (z_slot (by decide +kernel)) (@semA_cons _ _ _ _ _ _ _ _ (fun _ => rfl) (z_slot (by decide +kernel)) (semA_nil))))) (semSs_cons (z_asgLc (own := [("k", 11)]) (by decide +kernel) (by decide +kernel)  (by decide +kernel) (fun _ _ => rfl) (by rfl) (by decide) (z_r1 X.b_range (by decide +kernel) (fun _ => rfl) (@sem_idx _ _ _ _ _ _ _ _ _ (fun _ _ => rfl) (z_slot (by decide +kernel)) (sem_int))) (z_gn (by decide +kernel)) (z_c0) (sem_bin (opT_binG X.sp hk .Sub) (@sem_idx _ _ _ _ _ _ _ _ _ (fun _ _ => rfl) (z_slot (by decide +kernel)) (sem_bin (opT_binG X.sp hk .Add) (sem_int) (z_slot (by decide +kernel)))) (sem_int))) (semSs_cons (semS_ite (semT_cmp (opT_cmpG X.sp hk .Eq) (by rfl) (@sem_idx _ _ _ _ _ _ _ _ _ (fun _ _ => rfl) (z_slot (by decide +kernel)) (sem_int)) (sem_int)) (semSs_cons (z_asgLc (own := [("place", 12)]) (by decide +kernel) (by decide +kernel)  (by decide +kernel) (fun _ _ => rfl) (by rfl) (by decide) (semI_lst (z_slot (by decide +kernel))) (z_gn (by decide +kernel)) (z_c0) (sem_bin (opT_binG X.sp hk .Mult) (sem_int) (z_slot (by decide +kernel)))) (semSs_nil)) (semSs_nil)) (semSs_cons (semS_ite (semT_not (semT_plain (z_call X.c__law_asked hk (by decide +kernel) (fun _ => rfl) (fun _ _ => rfl) (@semA_cons _ _ _ _ _ _ _ _ (fun _ => rfl) (z_mk X.k_Scene h1 (by decide +kernel) (fun _ => rfl) (fun _ _ => rfl) (@semA_cons _ _ _ _ _ _ _ _ (fun _ => rfl) (z_slot (by decide +kernel)) (@semA_cons _ _ _ _ _ _ _ _ (fun _ => rfl) (z_slot (by decide +kernel)) (semA_nil)))) (@semA_cons _ _ _ _ _ _ _ _ (fun _ => rfl) (z_slot (by decide +kernel)) (@semA_cons _ _ _ _ _ _ _ _ (fun _ => rfl) (z_slot (by decide +kernel)) (@semA_cons _ _ _ _ _ _ _ _ (fun _ => rfl) (z_slot (by decide +kernel)) (@semA_cons _ _ _ _ _ _ _ _ (fun _ => rfl) (z_slot (by decide +kernel)) (semA_nil))))))) (fun _ _ => rfl))) (semSs_cons (semS_ret (sem_bl)) (semSs_nil)) (semSs_nil)) (semSs_cons (z_asg (by decide +kernel) (fun _ _ => rfl) (z_call X.c__law_mirror hk (by decide +kernel) (fun _ => rfl) (fun _ _ => rfl) (@semA_cons _ _ _ _ _ _ _ _ (fun _ => rfl) (z_slot (by decide +kernel)) (semA_nil)))) (semSs_cons (semS_ret (z_call X.c__law_is_scene hk (by decide +kernel) (fun _ => rfl) (fun _ _ => rfl) (@semA_cons _ _ _ _ _ _ _ _ (fun _ => rfl) (z_call X.c_back hk (by decide +kernel) (fun _ => rfl) (fun _ _ => rfl) (@semA_cons _ _ _ _ _ _ _ _ (fun _ => rfl) (z_mk X.k_Scene h1 (by decide +kernel) (fun _ => rfl) (fun _ _ => rfl) (@semA_cons _ _ _ _ _ _ _ _ (fun _ => rfl) (z_slot (by decide +kernel)) (@semA_cons _ _ _ _ _ _ _ _ (fun _ => rfl) (z_slot (by decide +kernel)) (semA_nil)))) (@semA_cons _ _ _ _ _ _ _ _ (fun _ => rfl) (z_slot (by decide +kernel)) (semA_nil)))) (@semA_cons _ _ _ _ _ _ _ _ (fun _ => rfl) (z_slot (by decide +kernel)) (@semA_cons _ _ _ _ _ _ _ _ (fun _ => rfl) (z_call X.c__law_back hk (by decide +kernel) (fun _ => rfl) (fun _ _ => rfl) (@semA_cons _ _ _ _ _ _ _ _ (fun _ => rfl) (z_slot (by decide +kernel)) (@semA_cons _ _ _ _ _ _ _ _ (fun _ => rfl) (z_slot (by decide +kernel)) (@semA_cons _ _ _ _ _ _ _ _ (fun _ => rfl) (z_slot (by decide +kernel)) (semA_nil))))) (semA_nil)))))) (semSs_nil)))))))))))))
end
end P36

namespace P36
open PySem PySem.Spec PyProof.Rows L2 Z
section
variable {P : Program} {w : World} {K : PySem.W.Frag} {mg : Str → Option Value} {base : Heap}
def Tb (K : PySem.W.Frag) (C0 C1 : Addr) : Tab := ⟨K, fun c => match c with | 0 => C0 | 1 => C1 | _ => C0, names⟩
structure Facts (K : PySem.W.Frag) (mg : Str → Option Value) (C0 C1 a0 a1 a2 a3 a4 a5 a6 a7 a8 a9 a10 a11 a12 a13 a14 a15 a16 a17 a18 a19 a20 a21 a22 a23 a24 a25 a26 a27 a28 a29 a30 a31 a32 a33 a34 a35 : Addr) (d0 d1 d2 d3 d4 d5 d6 d7 d8 d9 d10 d11 d12 d13 d14 d15 d16 d17 d18 d19 d20 d21 d22 d23 d24 d25 d26 d27 d28 d29 d30 d31 d32 d33 d34 d35 : FuncData) : Prop where
  at0 : At K mg "places_of" s0 q0 a0 d0
  at1 : At K mg "near_masks" s1 q1 a1 d1
  at2 : At K mg "spread" s2 q2 a2 d2
  at9 : At K mg "check_lines" s9 q9 a9 d9
  at10 : At K mg "check_places" s10 q10 a10 d10
  at13 : At K mg "check_picture" s13 q13 a13 d13
  at14 : At K mg "mirror" s14 q14 a14 d14
  at15 : At K mg "masks_of_scene" s15 q15 a15 d15
  at16 : At K mg "scene_of_masks" s16 q16 a16 d16
  at17 : At K mg "poked_mask" s17 q17 a17 d17
  at18 : At K mg "next_masks" s18 q18 a18 d18
  at19 : At K mg "step" s19 q19 a19 d19
  at20 : At K mg "back" s20 q20 a20 d20
  at21 : At K mg "_law_whole" s21 q21 a21 d21
  at22 : At K mg "_law_cell" s22 q22 a22 d22
  at23 : At K mg "_law_digits" s23 q23 a23 d23
  at24 : At K mg "_law_web" s24 q24 a24 d24
  at25 : At K mg "_law_picture" s25 q25 a25 d25
  at26 : At K mg "_law_scene" s26 q26 a26 d26
  at27 : At K mg "_law_near" s27 q27 a27 d27
  at28 : At K mg "_law_step" s28 q28 a28 d28
  at29 : At K mg "_law_row" s29 q29 a29 d29
  at30 : At K mg "_law_is_scene" s30 q30 a30 d30
  at31 : At K mg "_law_back" s31 q31 a31 d31
  at32 : At K mg "_law_mirror" s32 q32 a32 d32
  at33 : At K mg "_law_thread" s33 q33 a33 d33
  at34 : At K mg "_law_asked" s34 q34 a34 d34
  at35 : At K mg "law" s35 q35 a35 d35
  at3 : MtAt K C0 "__init__" "Web.__init__" s3 q3 a3 d3
  at4 : MtAt K C0 "near" "Web.near" s4 q4 a4 d4
  at5 : MtAt K C0 "__contains__" "Web.__contains__" s5 q5 a5 d5
  at6 : MtAt K C0 "__len__" "Web.__len__" s6 q6 a6 d6
  at7 : MtAt K C0 "__add__" "Web.__add__" s7 q7 a7 d7
  at8 : MtAt K C0 "__eq__" "Web.__eq__" s8 q8 a8 d8
  at11 : MtAt K C1 "__init__" "Scene.__init__" s11 q11 a11 d11
  at12 : MtAt K C1 "__eq__" "Scene.__eq__" s12 q12 a12 d12
  gt_MIRRORED : GT K mg "MIRRORED" [0, 2, 1]
  kb20_1 : KBn K d20 q20 1 ["poked"] (· ++ ·) (· ++ ·)
  bd20_1 : ∃ ds, Binds K d20 q20 ds ∧ DflOk K [.tup []] ds
  cl0 : Cls K C0
  na0 : ∀ x ∈ names, NoAttr K C0 x
  in0 : C8.InsC K C0
  mk0 : PySem.W.makesIn K C0 = true
  kc0 : PySem.W.keepIn K (.ref C0) = true
  mc0 : mg "Web" = some (.ref C0)
  sf0 : PySem.W.selfFirst K C0 = true
  cl1 : Cls K C1
  na1 : ∀ x ∈ names, NoAttr K C1 x
  in1 : C8.InsC K C1
  mk1 : PySem.W.makesIn K C1 = true
  kc1 : PySem.W.keepIn K (.ref C1) = true
  mc1 : mg "Scene" = some (.ref C1)
  sf1 : PySem.W.selfFirst K C1 = true
  b_bool : mg "bool" = none
  b_enumerate : mg "enumerate" = none
  b_int : mg "int" = none
  b_isinstance : mg "isinstance" = none
  b_len : mg "len" = none
  b_list : mg "list" = none
  b_max : mg "max" = none
  b_min : mg "min" = none
  b_range : mg "range" = none
  b_set : mg "set" = none
  b_sorted : mg "sorted" = none
  b_tuple : mg "tuple" = none
variable {C0 C1 a0 a1 a2 a3 a4 a5 a6 a7 a8 a9 a10 a11 a12 a13 a14 a15 a16 a17 a18 a19 a20 a21 a22 a23 a24 a25 a26 a27 a28 a29 a30 a31 a32 a33 a34 a35 : Addr} {d0 d1 d2 d3 d4 d5 d6 d7 d8 d9 d10 d11 d12 d13 d14 d15 d16 d17 d18 d19 d20 d21 d22 d23 d24 d25 d26 d27 d28 d29 d30 d31 d32 d33 d34 d35 : FuncData}
noncomputable def Ld (P : Program) (w : World) (base : Heap) (mg : Str → Option Value) (T : Tab) (wf d : Nat) : Law := ⟨P, w, base, mg, T, Gn wf d⟩
theorem okk (F : Facts K mg C0 C1 a0 a1 a2 a3 a4 a5 a6 a7 a8 a9 a10 a11 a12 a13 a14 a15 a16 a17 a18 a19 a20 a21 a22 a23 a24 a25 a26 a27 a28 a29 a30 a31 a32 a33 a34 a35 d0 d1 d2 d3 d4 d5 d6 d7 d8 d9 d10 d11 d12 d13 d14 d15 d16 d17 d18 d19 d20 d21 d22 d23 d24 d25 d26 d27 d28 d29 d30 d31 d32 d33 d34 d35) (wf d : Nat) : LawOk (Ld P w base mg (Tb K C0 C1) wf d) where
  nm := by show names.Nodup; decide +kernel
  cls := fun c => match c with
  | 0 => F.cl0
  | 1 => F.cl1
  | _ + 2 => F.cl0
  na := fun c => match c with
  | 0 => F.na0
  | 1 => F.na1
  | _ + 2 => F.na0
theorem cn (F : Facts K mg C0 C1 a0 a1 a2 a3 a4 a5 a6 a7 a8 a9 a10 a11 a12 a13 a14 a15 a16 a17 a18 a19 a20 a21 a22 a23 a24 a25 a26 a27 a28 a29 a30 a31 a32 a33 a34 a35 d0 d1 d2 d3 d4 d5 d6 d7 d8 d9 d10 d11 d12 d13 d14 d15 d16 d17 d18 d19 d20 d21 d22 d23 d24 d25 d26 d27 d28 d29 d30 d31 d32 d33 d34 d35) (wf : Nat) : ∀ d, Cn (Ld P w base mg (Tb K C0 C1) wf d) (2 * d)
  | 0 => {
      ok := okk F wf 0
      sp := ⟨fun c s f h => (by cases h), fun c op f h => (by cases h)⟩
      ins := fun c => match c with
      | 0 => F.in0
      | 1 => F.in1
      | _ + 2 => F.in0
      g_MIRRORED := F.gt_MIRRORED
      nm := rfl
      b_bool := F.b_bool
      b_enumerate := F.b_enumerate
      b_int := F.b_int
      b_isinstance := F.b_isinstance
      b_len := F.b_len
      b_list := F.b_list
      b_max := F.b_max
      b_min := F.b_min
      b_range := F.b_range
      b_set := F.b_set
      b_sorted := F.b_sorted
      b_tuple := F.b_tuple
      m_Web := F.mc0
      m_Scene := F.mc1
      k_Web := F.at3.mak F.mk0 F.kc0 F.mc0 init_none
      k_Scene := F.at11.mak F.mk1 F.kc1 F.mc1 init_none
      c_places_of := F.at0.cal fn_none
      c_near_masks := F.at1.cal fn_none
      c_spread := F.at2.cal fn_none
      c_check_lines := F.at9.cal fn_none
      c_check_places := F.at10.cal fn_none
      c_check_picture := F.at13.cal fn_none
      c_mirror := F.at14.cal fn_none
      c_masks_of_scene := F.at15.cal fn_none
      c_scene_of_masks := F.at16.cal fn_none
      c_poked_mask := F.at17.cal fn_none
      c_next_masks := F.at18.cal fn_none
      c_step := F.at19.cal fn_none
      c_back := F.at20.cal fn_none
      c__law_whole := F.at21.cal fn_none
      c__law_cell := F.at22.cal fn_none
      c__law_digits := F.at23.cal fn_none
      c__law_web := F.at24.cal fn_none
      c__law_picture := F.at25.cal fn_none
      c__law_scene := F.at26.cal fn_none
      c__law_near := F.at27.cal fn_none
      c__law_step := F.at28.cal fn_none
      c__law_row := F.at29.cal fn_none
      c__law_is_scene := F.at30.cal fn_none
      c__law_back := F.at31.cal fn_none
      c__law_mirror := F.at32.cal fn_none
      c__law_thread := F.at33.cal fn_none
      c__law_asked := F.at34.cal fn_none
      d_back_1 := .of F.at20 F.bd20_1 fn_none
      kw_back_1 := .of F.at20 F.kb20_1 fn_none }
  | d + 1 => {
      ok := okk F wf (d + 1)
      sp := {
       own := fun c s f h => by
        have h' : spc c s = some f := h
        unfold spc at h'
        split at h'
        · cases h'; exact F.at5.own (fn_sound (L := Ld P w base mg (Tb K C0 C1) wf d) F.at5.fn (C8.fnScope_by (by decide +kernel)) f5 rfl rfl (t5 (cn F wf d) (Nat.le_refl _)))
        · cases h'; exact F.at6.own (fn_sound (L := Ld P w base mg (Tb K C0 C1) wf d) F.at6.fn (C8.fnScope_by (by decide +kernel)) f6 rfl rfl (t6 (cn F wf d) (Nat.le_refl _)))
        · cases h'; exact F.at7.own (fn_sound (L := Ld P w base mg (Tb K C0 C1) wf d) F.at7.fn (C8.fnScope_by (by decide +kernel)) f7 rfl rfl (t7 (cn F wf d) (Nat.le_refl _)))
        · cases h'; exact F.at8.own (fn_sound (L := Ld P w base mg (Tb K C0 C1) wf d) F.at8.fn (C8.fnScope_by (by decide +kernel)) f8 rfl rfl (t8 (cn F wf d) (Nat.le_refl _)))
        · cases h'; exact F.at12.own (fn_sound (L := Ld P w base mg (Tb K C0 C1) wf d) F.at12.fn (C8.fnScope_by (by decide +kernel)) f12 rfl rfl (t12 (cn F wf d) (Nat.le_refl _)))
        · cases h'
       first := fun c op f h => by
        have h' : spc c (.bin op) = some f := h
        unfold spc at h'
        split at h'
        · rename_i z; cases z
        · rename_i z; cases z
        · exact F.sf0
        · rename_i z; cases z
        · rename_i z; cases z
        · cases h' }
      ins := fun c => match c with
      | 0 => F.in0
      | 1 => F.in1
      | _ + 2 => F.in0
      g_MIRRORED := F.gt_MIRRORED
      nm := rfl
      b_bool := F.b_bool
      b_enumerate := F.b_enumerate
      b_int := F.b_int
      b_isinstance := F.b_isinstance
      b_len := F.b_len
      b_list := F.b_list
      b_max := F.b_max
      b_min := F.b_min
      b_range := F.b_range
      b_set := F.b_set
      b_sorted := F.b_sorted
      b_tuple := F.b_tuple
      m_Web := F.mc0
      m_Scene := F.mc1
      k_Web := F.at3.mak F.mk0 F.kc0 F.mc0 (init_new (init_sound (L := Ld P w base mg (Tb K C0 C1) wf d) F.at3.fn (C8.fnScope_by (by decide +kernel)) f3 rfl rfl (t3 (cn F wf d) (Nat.le_refl _))))
      k_Scene := F.at11.mak F.mk1 F.kc1 F.mc1 (init_new (init_sound (L := Ld P w base mg (Tb K C0 C1) wf d) F.at11.fn (C8.fnScope_by (by decide +kernel)) f11 rfl rfl (t11 (cn F wf d) (Nat.le_refl _))))
      c_places_of := F.at0.cal (fn_sound (L := Ld P w base mg (Tb K C0 C1) wf d) F.at0.fn (C8.fnScope_by (by decide +kernel)) f0 rfl rfl (t0 (cn F wf d) (Nat.le_refl _)))
      c_near_masks := F.at1.cal (fn_sound (L := Ld P w base mg (Tb K C0 C1) wf d) F.at1.fn (C8.fnScope_by (by decide +kernel)) f1 rfl rfl (t1 (cn F wf d) (Nat.le_refl _)))
      c_spread := F.at2.cal (fn_sound (L := Ld P w base mg (Tb K C0 C1) wf d) F.at2.fn (C8.fnScope_by (by decide +kernel)) f2 rfl rfl (t2 (cn F wf d) (Nat.le_refl _)))
      c_check_lines := F.at9.cal (fn_sound (L := Ld P w base mg (Tb K C0 C1) wf d) F.at9.fn (C8.fnScope_by (by decide +kernel)) f9 rfl rfl (t9 (cn F wf d) (Nat.le_refl _)))
      c_check_places := F.at10.cal (fn_sound (L := Ld P w base mg (Tb K C0 C1) wf d) F.at10.fn (C8.fnScope_by (by decide +kernel)) f10 rfl rfl (t10 (cn F wf d) (Nat.le_refl _)))
      c_check_picture := F.at13.cal (fn_sound (L := Ld P w base mg (Tb K C0 C1) wf d) F.at13.fn (C8.fnScope_by (by decide +kernel)) f13 rfl rfl (t13 (cn F wf d) (Nat.le_refl _)))
      c_mirror := F.at14.cal (fn_sound (L := Ld P w base mg (Tb K C0 C1) wf d) F.at14.fn (C8.fnScope_by (by decide +kernel)) f14 rfl rfl (t14 (cn F wf d) (Nat.le_refl _)))
      c_masks_of_scene := F.at15.cal (fn_sound (L := Ld P w base mg (Tb K C0 C1) wf d) F.at15.fn (C8.fnScope_by (by decide +kernel)) f15 rfl rfl (t15 (cn F wf d) (Nat.le_refl _)))
      c_scene_of_masks := F.at16.cal (fn_sound (L := Ld P w base mg (Tb K C0 C1) wf d) F.at16.fn (C8.fnScope_by (by decide +kernel)) f16 rfl rfl (t16 (cn F wf d) (Nat.le_refl _)))
      c_poked_mask := F.at17.cal (fn_sound (L := Ld P w base mg (Tb K C0 C1) wf d) F.at17.fn (C8.fnScope_by (by decide +kernel)) f17 rfl rfl (t17 (cn F wf d) (Nat.le_refl _)))
      c_next_masks := F.at18.cal (fn_sound (L := Ld P w base mg (Tb K C0 C1) wf d) F.at18.fn (C8.fnScope_by (by decide +kernel)) f18 rfl rfl (t18 (cn F wf d) (Nat.le_refl _)))
      c_step := F.at19.cal (fn_sound (L := Ld P w base mg (Tb K C0 C1) wf d) F.at19.fn (C8.fnScope_by (by decide +kernel)) f19 rfl rfl (t19 (cn F wf d) (Nat.le_refl _)))
      c_back := F.at20.cal (fn_sound (L := Ld P w base mg (Tb K C0 C1) wf d) F.at20.fn (C8.fnScope_by (by decide +kernel)) f20 rfl rfl (t20 (cn F wf d) (Nat.le_refl _)))
      c__law_whole := F.at21.cal (fn_sound (L := Ld P w base mg (Tb K C0 C1) wf d) F.at21.fn (C8.fnScope_by (by decide +kernel)) f21 rfl rfl (t21 (cn F wf d) (Nat.le_refl _)))
      c__law_cell := F.at22.cal (fn_sound (L := Ld P w base mg (Tb K C0 C1) wf d) F.at22.fn (C8.fnScope_by (by decide +kernel)) f22 rfl rfl (t22 (cn F wf d) (Nat.le_refl _)))
      c__law_digits := F.at23.cal (fn_sound (L := Ld P w base mg (Tb K C0 C1) wf d) F.at23.fn (C8.fnScope_by (by decide +kernel)) f23 rfl rfl (t23 (cn F wf d) (Nat.le_refl _)))
      c__law_web := F.at24.cal (fn_sound (L := Ld P w base mg (Tb K C0 C1) wf d) F.at24.fn (C8.fnScope_by (by decide +kernel)) f24 rfl rfl (t24 (cn F wf d) (Nat.le_refl _)))
      c__law_picture := F.at25.cal (fn_sound (L := Ld P w base mg (Tb K C0 C1) wf d) F.at25.fn (C8.fnScope_by (by decide +kernel)) f25 rfl rfl (t25 (cn F wf d) (Nat.le_refl _)))
      c__law_scene := F.at26.cal (fn_sound (L := Ld P w base mg (Tb K C0 C1) wf d) F.at26.fn (C8.fnScope_by (by decide +kernel)) f26 rfl rfl (t26 (cn F wf d) (Nat.le_refl _)))
      c__law_near := F.at27.cal (fn_sound (L := Ld P w base mg (Tb K C0 C1) wf d) F.at27.fn (C8.fnScope_by (by decide +kernel)) f27 rfl rfl (t27 (cn F wf d) (Nat.le_refl _)))
      c__law_step := F.at28.cal (fn_sound (L := Ld P w base mg (Tb K C0 C1) wf d) F.at28.fn (C8.fnScope_by (by decide +kernel)) f28 rfl rfl (t28 (cn F wf d) (Nat.le_refl _)))
      c__law_row := F.at29.cal (fn_sound (L := Ld P w base mg (Tb K C0 C1) wf d) F.at29.fn (C8.fnScope_by (by decide +kernel)) f29 rfl rfl (t29 (cn F wf d) (Nat.le_refl _)))
      c__law_is_scene := F.at30.cal (fn_sound (L := Ld P w base mg (Tb K C0 C1) wf d) F.at30.fn (C8.fnScope_by (by decide +kernel)) f30 rfl rfl (t30 (cn F wf d) (Nat.le_refl _)))
      c__law_back := F.at31.cal (fn_sound (L := Ld P w base mg (Tb K C0 C1) wf d) F.at31.fn (C8.fnScope_by (by decide +kernel)) f31 rfl rfl (t31 (cn F wf d) (Nat.le_refl _)))
      c__law_mirror := F.at32.cal (fn_sound (L := Ld P w base mg (Tb K C0 C1) wf d) F.at32.fn (C8.fnScope_by (by decide +kernel)) f32 rfl rfl (t32 (cn F wf d) (Nat.le_refl _)))
      c__law_thread := F.at33.cal (fn_sound (L := Ld P w base mg (Tb K C0 C1) wf d) F.at33.fn (C8.fnScope_by (by decide +kernel)) f33 rfl rfl (t33 (cn F wf d) (Nat.le_refl _)))
      c__law_asked := F.at34.cal (fn_sound (L := Ld P w base mg (Tb K C0 C1) wf d) F.at34.fn (C8.fnScope_by (by decide +kernel)) f34 rfl rfl (t34 (cn F wf d) (Nat.le_refl _)))
      d_back_1 := .of F.at20 F.bd20_1 (fn_sound (L := Ld P w base mg (Tb K C0 C1) wf d) F.at20.fn (C8.fnScope_by (by decide +kernel)) f20 rfl rfl (t20 (cn F wf d) (Nat.le_refl _)))
      kw_back_1 := .of F.at20 F.kb20_1 (fn_sound (L := Ld P w base mg (Tb K C0 C1) wf d) F.at20.fn (C8.fnScope_by (by decide +kernel)) f20 rfl rfl (t20 (cn F wf d) (Nat.le_refl _))) }
def spLaw (K : PySem.W.Frag) : Sp := fun vs H Q _ => ∃ (a : Addr) (ns : List Int), vs = [.ref a] ∧ SqL K H a (ns.map V.int) ∧ ns.length ≤ 63 ∧ ∀ H', Q (.bl true) H'
theorem law_ok (F : Facts K mg C0 C1 a0 a1 a2 a3 a4 a5 a6 a7 a8 a9 a10 a11 a12 a13 a14 a15 a16 a17 a18 a19 a20 a21 a22 a23 a24 a25 a26 a27 a28 a29 a30 a31 a32 a33 a34 a35 d0 d1 d2 d3 d4 d5 d6 d7 d8 d9 d10 d11 d12 d13 d14 d15 d16 d17 d18 d19 d20 d21 d22 d23 d24 d25 d26 d27 d28 d29 d30 d31 d32 d33 d34 d35) (wf d : Nat) (main : ∀ ns : List Int, ns.length ≤ 63 → runD (Gn wf d) f35 [.lst .ro (ns.map D.int)] = some (.bl true)) : FnOk P w K mg base C8.CX0 (2 * d + 2) a35 d35 ["script"] (spLaw K) :=
  (fn_sound (L := Ld P w base mg (Tb K C0 C1) wf d) F.at35.fn (C8.fnScope_by (by decide +kernel)) f35 rfl rfl (t35 (cn F wf d) (Nat.le_refl _))).imp fun vs H Q E ⟨a, ns, h1, h2, h3, h4⟩ => by
    subst h1
    exact ⟨H, [.lst .ro (ns.map D.int)], .bl true, Evl.Ex.refl _, ⟨.ref a, [], [], [], rfl, rfl, ⟨a, _, rfl, rfl, h2, ints_repS ns⟩, rfl, rfl⟩, main ns h3, fun v H' Hf' F' g r n => by rw [r.1]; exact h4 H'⟩
end
theorem all_mk {K : PySem.W.Frag} {h : Heap} {mg : Str → Option Value} {C0 C1 a0 a1 a2 a3 a4 a5 a6 a7 a8 a9 a10 a11 a12 a13 a14 a15 a16 a17 a18 a19 a20 a21 a22 a23 a24 a25 a26 a27 a28 a29 a30 a31 a32 a33 a34 a35 : Addr} (X : K.In h) (G : h.Ns mainGlobals mg)
    (cx0 : PySem.W.nsIn K mainGlobals "Web" = some (some (.ref C0))) (pg0 : PySem.W.plainGet K C0 Str.empty = true) (hd0 : PySem.W.hasDictIn K C0 = true) (po0 : PySem.W.plainOver K C0 = true) (sa0 : PySem.W.findIn K (.ref C0) "__setattr__" = some (some (.builtin "object.__setattr__"))) (mk0 : PySem.W.makesIn K C0 = true) (kc0 : PySem.W.keepIn K (.ref C0) = true) (sf0 : PySem.W.selfFirst K C0 = true) (ha0 : PySem.W.findIn K (.ref C0) "__class__" = some (some (.builtin "object.__class__"))) (hm0 : PySem.W.mroIn K C0 (.type "object") = some true) (me0 : PySem.W.kitOne K (.ref C0) (.ref C0) = some true)
    (n0_0 : PySem.W.findIn K (.ref C0) "size" = some none)
    (n0_1 : PySem.W.findIn K (.ref C0) "lines" = some none)
    (n0_2 : PySem.W.findIn K (.ref C0) "masks" = some none)
    (n0_3 : PySem.W.findIn K (.ref C0) "_near" = some none)
    (n0_4 : PySem.W.findIn K (.ref C0) "web" = some none)
    (n0_5 : PySem.W.findIn K (.ref C0) "picture" = some none)
    (cx1 : PySem.W.nsIn K mainGlobals "Scene" = some (some (.ref C1))) (pg1 : PySem.W.plainGet K C1 Str.empty = true) (hd1 : PySem.W.hasDictIn K C1 = true) (po1 : PySem.W.plainOver K C1 = true) (sa1 : PySem.W.findIn K (.ref C1) "__setattr__" = some (some (.builtin "object.__setattr__"))) (mk1 : PySem.W.makesIn K C1 = true) (kc1 : PySem.W.keepIn K (.ref C1) = true) (sf1 : PySem.W.selfFirst K C1 = true) (ha1 : PySem.W.findIn K (.ref C1) "__class__" = some (some (.builtin "object.__class__"))) (hm1 : PySem.W.mroIn K C1 (.type "object") = some true) (me1 : PySem.W.kitOne K (.ref C1) (.ref C1) = some true)
    (n1_0 : PySem.W.findIn K (.ref C1) "size" = some none)
    (n1_1 : PySem.W.findIn K (.ref C1) "lines" = some none)
    (n1_2 : PySem.W.findIn K (.ref C1) "masks" = some none)
    (n1_3 : PySem.W.findIn K (.ref C1) "_near" = some none)
    (n1_4 : PySem.W.findIn K (.ref C1) "web" = some none)
    (n1_5 : PySem.W.findIn K (.ref C1) "picture" = some none)
    {G_MIRRORED : Addr} {go_MIRRORED : Option Addr} {gn_MIRRORED : Nat} {gs_MIRRORED : Array (Option Value)} {gt_MIRRORED_0 : Tok} {gt_MIRRORED_1 : Tok} {gt_MIRRORED_2 : Tok} (xg_MIRRORED : PySem.W.nsIn K mainGlobals "MIRRORED" = some (some (.ref G_MIRRORED))) (lg_MIRRORED : K.lookup G_MIRRORED = some ⟨.type "tuple", go_MIRRORED, .seq #[.int 0 gt_MIRRORED_0, .int 2 gt_MIRRORED_1, .int 1 gt_MIRRORED_2] gn_MIRRORED, gs_MIRRORED⟩)
    {o0 : Option Addr} {an0 : Option Addr} {sl0 : Array (Option Value)} {oc0 kV0 dc0 pm0 cd0 ct0 : Value}
    (x0 : PySem.W.nsIn K mainGlobals "places_of" = some (some (.ref a0)))
    (l0 : K.lookup a0 = some ⟨oc0, o0, .func (PySem.W.fnOf "places_of" "places_of" (C8.fnArgs s0) (C8.fnBody s0) (C8.fnScope s0) .none kV0 dc0 pm0 an0 cd0 ct0), sl0⟩) (e0 : PySem.W.codeIn K cd0 "places_of" = true) (u0 : PySem.W.keepIn K (.ref a0) = true)
    {o1 : Option Addr} {an1 : Option Addr} {sl1 : Array (Option Value)} {oc1 kV1 dc1 pm1 cd1 ct1 : Value}
    (x1 : PySem.W.nsIn K mainGlobals "near_masks" = some (some (.ref a1)))
    (l1 : K.lookup a1 = some ⟨oc1, o1, .func (PySem.W.fnOf "near_masks" "near_masks" (C8.fnArgs s1) (C8.fnBody s1) (C8.fnScope s1) .none kV1 dc1 pm1 an1 cd1 ct1), sl1⟩) (e1 : PySem.W.codeIn K cd1 "near_masks" = true) (u1 : PySem.W.keepIn K (.ref a1) = true)
    {o2 : Option Addr} {an2 : Option Addr} {sl2 : Array (Option Value)} {oc2 kV2 dc2 pm2 cd2 ct2 : Value}
    (x2 : PySem.W.nsIn K mainGlobals "spread" = some (some (.ref a2)))
    (l2 : K.lookup a2 = some ⟨oc2, o2, .func (PySem.W.fnOf "spread" "spread" (C8.fnArgs s2) (C8.fnBody s2) (C8.fnScope s2) .none kV2 dc2 pm2 an2 cd2 ct2), sl2⟩) (e2 : PySem.W.codeIn K cd2 "spread" = true) (u2 : PySem.W.keepIn K (.ref a2) = true)
    {T3 : Addr}
    {o3 : Option Addr} {an3 : Option Addr} {sl3 : Array (Option Value)} {oc3 kV3 dc3 pm3 cd3 ct3 : Value}
    (x3 : PySem.W.findIn K (.ref C0) "__init__" = some (some (.ref a3))) (i3 : PySem.W.isFn K (.ref a3) = true)
    (l3 : K.lookup a3 = some ⟨oc3, o3, .func (PySem.W.fnOf "__init__" "Web.__init__" (C8.fnArgs s3) (C8.fnBody s3) (C8.fnScope s3) (.ref T3) kV3 dc3 pm3 an3 cd3 ct3), sl3⟩) (e3 : PySem.W.codeIn K cd3 "Web.__init__" = true) (u3 : PySem.W.keepIn K (.ref a3) = true)
    {U3_0 : Addr} {uo3_0 : Option Addr} {un3_0 : Nat} {us3_0 : Array (Option Value)} (w3_0 : K.lookup U3_0 = some ⟨.type "tuple", uo3_0, .seq #[] un3_0, us3_0⟩)
    {tc3 : Value} {to3 : Option Addr} {tn3 : Nat} {ts3 : Array (Option Value)} (v3 : K.lookup T3 = some ⟨tc3, to3, .seq #[.ref U3_0] tn3, ts3⟩)
    {o4 : Option Addr} {an4 : Option Addr} {sl4 : Array (Option Value)} {oc4 kV4 dc4 pm4 cd4 ct4 : Value}
    (x4 : PySem.W.findIn K (.ref C0) "near" = some (some (.ref a4))) (i4 : PySem.W.isFn K (.ref a4) = true)
    (l4 : K.lookup a4 = some ⟨oc4, o4, .func (PySem.W.fnOf "near" "Web.near" (C8.fnArgs s4) (C8.fnBody s4) (C8.fnScope s4) .none kV4 dc4 pm4 an4 cd4 ct4), sl4⟩) (e4 : PySem.W.codeIn K cd4 "Web.near" = true) (u4 : PySem.W.keepIn K (.ref a4) = true)
    {o5 : Option Addr} {an5 : Option Addr} {sl5 : Array (Option Value)} {oc5 kV5 dc5 pm5 cd5 ct5 : Value}
    (x5 : PySem.W.findIn K (.ref C0) "__contains__" = some (some (.ref a5))) (i5 : PySem.W.isFn K (.ref a5) = true)
    (l5 : K.lookup a5 = some ⟨oc5, o5, .func (PySem.W.fnOf "__contains__" "Web.__contains__" (C8.fnArgs s5) (C8.fnBody s5) (C8.fnScope s5) .none kV5 dc5 pm5 an5 cd5 ct5), sl5⟩) (e5 : PySem.W.codeIn K cd5 "Web.__contains__" = true) (u5 : PySem.W.keepIn K (.ref a5) = true)
    {o6 : Option Addr} {an6 : Option Addr} {sl6 : Array (Option Value)} {oc6 kV6 dc6 pm6 cd6 ct6 : Value}
    (x6 : PySem.W.findIn K (.ref C0) "__len__" = some (some (.ref a6))) (i6 : PySem.W.isFn K (.ref a6) = true)
    (l6 : K.lookup a6 = some ⟨oc6, o6, .func (PySem.W.fnOf "__len__" "Web.__len__" (C8.fnArgs s6) (C8.fnBody s6) (C8.fnScope s6) .none kV6 dc6 pm6 an6 cd6 ct6), sl6⟩) (e6 : PySem.W.codeIn K cd6 "Web.__len__" = true) (u6 : PySem.W.keepIn K (.ref a6) = true)
    {o7 : Option Addr} {an7 : Option Addr} {sl7 : Array (Option Value)} {oc7 kV7 dc7 pm7 cd7 ct7 : Value}
    (x7 : PySem.W.findIn K (.ref C0) "__add__" = some (some (.ref a7))) (i7 : PySem.W.isFn K (.ref a7) = true)
    (l7 : K.lookup a7 = some ⟨oc7, o7, .func (PySem.W.fnOf "__add__" "Web.__add__" (C8.fnArgs s7) (C8.fnBody s7) (C8.fnScope s7) .none kV7 dc7 pm7 an7 cd7 ct7), sl7⟩) (e7 : PySem.W.codeIn K cd7 "Web.__add__" = true) (u7 : PySem.W.keepIn K (.ref a7) = true)
    {o8 : Option Addr} {an8 : Option Addr} {sl8 : Array (Option Value)} {oc8 kV8 dc8 pm8 cd8 ct8 : Value}
    (x8 : PySem.W.findIn K (.ref C0) "__eq__" = some (some (.ref a8))) (i8 : PySem.W.isFn K (.ref a8) = true)
    (l8 : K.lookup a8 = some ⟨oc8, o8, .func (PySem.W.fnOf "__eq__" "Web.__eq__" (C8.fnArgs s8) (C8.fnBody s8) (C8.fnScope s8) .none kV8 dc8 pm8 an8 cd8 ct8), sl8⟩) (e8 : PySem.W.codeIn K cd8 "Web.__eq__" = true) (u8 : PySem.W.keepIn K (.ref a8) = true)
    {o9 : Option Addr} {an9 : Option Addr} {sl9 : Array (Option Value)} {oc9 kV9 dc9 pm9 cd9 ct9 : Value}
    (x9 : PySem.W.nsIn K mainGlobals "check_lines" = some (some (.ref a9)))
    (l9 : K.lookup a9 = some ⟨oc9, o9, .func (PySem.W.fnOf "check_lines" "check_lines" (C8.fnArgs s9) (C8.fnBody s9) (C8.fnScope s9) .none kV9 dc9 pm9 an9 cd9 ct9), sl9⟩) (e9 : PySem.W.codeIn K cd9 "check_lines" = true) (u9 : PySem.W.keepIn K (.ref a9) = true)
    {o10 : Option Addr} {an10 : Option Addr} {sl10 : Array (Option Value)} {oc10 kV10 dc10 pm10 cd10 ct10 : Value}
    (x10 : PySem.W.nsIn K mainGlobals "check_places" = some (some (.ref a10)))
    (l10 : K.lookup a10 = some ⟨oc10, o10, .func (PySem.W.fnOf "check_places" "check_places" (C8.fnArgs s10) (C8.fnBody s10) (C8.fnScope s10) .none kV10 dc10 pm10 an10 cd10 ct10), sl10⟩) (e10 : PySem.W.codeIn K cd10 "check_places" = true) (u10 : PySem.W.keepIn K (.ref a10) = true)
    {o11 : Option Addr} {an11 : Option Addr} {sl11 : Array (Option Value)} {oc11 kV11 dc11 pm11 cd11 ct11 : Value}
    (x11 : PySem.W.findIn K (.ref C1) "__init__" = some (some (.ref a11))) (i11 : PySem.W.isFn K (.ref a11) = true)
    (l11 : K.lookup a11 = some ⟨oc11, o11, .func (PySem.W.fnOf "__init__" "Scene.__init__" (C8.fnArgs s11) (C8.fnBody s11) (C8.fnScope s11) .none kV11 dc11 pm11 an11 cd11 ct11), sl11⟩) (e11 : PySem.W.codeIn K cd11 "Scene.__init__" = true) (u11 : PySem.W.keepIn K (.ref a11) = true)
    {o12 : Option Addr} {an12 : Option Addr} {sl12 : Array (Option Value)} {oc12 kV12 dc12 pm12 cd12 ct12 : Value}
    (x12 : PySem.W.findIn K (.ref C1) "__eq__" = some (some (.ref a12))) (i12 : PySem.W.isFn K (.ref a12) = true)
    (l12 : K.lookup a12 = some ⟨oc12, o12, .func (PySem.W.fnOf "__eq__" "Scene.__eq__" (C8.fnArgs s12) (C8.fnBody s12) (C8.fnScope s12) .none kV12 dc12 pm12 an12 cd12 ct12), sl12⟩) (e12 : PySem.W.codeIn K cd12 "Scene.__eq__" = true) (u12 : PySem.W.keepIn K (.ref a12) = true)
    {o13 : Option Addr} {an13 : Option Addr} {sl13 : Array (Option Value)} {oc13 kV13 dc13 pm13 cd13 ct13 : Value}
    (x13 : PySem.W.nsIn K mainGlobals "check_picture" = some (some (.ref a13)))
    (l13 : K.lookup a13 = some ⟨oc13, o13, .func (PySem.W.fnOf "check_picture" "check_picture" (C8.fnArgs s13) (C8.fnBody s13) (C8.fnScope s13) .none kV13 dc13 pm13 an13 cd13 ct13), sl13⟩) (e13 : PySem.W.codeIn K cd13 "check_picture" = true) (u13 : PySem.W.keepIn K (.ref a13) = true)
    {o14 : Option Addr} {an14 : Option Addr} {sl14 : Array (Option Value)} {oc14 kV14 dc14 pm14 cd14 ct14 : Value}
    (x14 : PySem.W.nsIn K mainGlobals "mirror" = some (some (.ref a14)))
    (l14 : K.lookup a14 = some ⟨oc14, o14, .func (PySem.W.fnOf "mirror" "mirror" (C8.fnArgs s14) (C8.fnBody s14) (C8.fnScope s14) .none kV14 dc14 pm14 an14 cd14 ct14), sl14⟩) (e14 : PySem.W.codeIn K cd14 "mirror" = true) (u14 : PySem.W.keepIn K (.ref a14) = true)
    {o15 : Option Addr} {an15 : Option Addr} {sl15 : Array (Option Value)} {oc15 kV15 dc15 pm15 cd15 ct15 : Value}
    (x15 : PySem.W.nsIn K mainGlobals "masks_of_scene" = some (some (.ref a15)))
    (l15 : K.lookup a15 = some ⟨oc15, o15, .func (PySem.W.fnOf "masks_of_scene" "masks_of_scene" (C8.fnArgs s15) (C8.fnBody s15) (C8.fnScope s15) .none kV15 dc15 pm15 an15 cd15 ct15), sl15⟩) (e15 : PySem.W.codeIn K cd15 "masks_of_scene" = true) (u15 : PySem.W.keepIn K (.ref a15) = true)
    {o16 : Option Addr} {an16 : Option Addr} {sl16 : Array (Option Value)} {oc16 kV16 dc16 pm16 cd16 ct16 : Value}
    (x16 : PySem.W.nsIn K mainGlobals "scene_of_masks" = some (some (.ref a16)))
    (l16 : K.lookup a16 = some ⟨oc16, o16, .func (PySem.W.fnOf "scene_of_masks" "scene_of_masks" (C8.fnArgs s16) (C8.fnBody s16) (C8.fnScope s16) .none kV16 dc16 pm16 an16 cd16 ct16), sl16⟩) (e16 : PySem.W.codeIn K cd16 "scene_of_masks" = true) (u16 : PySem.W.keepIn K (.ref a16) = true)
    {o17 : Option Addr} {an17 : Option Addr} {sl17 : Array (Option Value)} {oc17 kV17 dc17 pm17 cd17 ct17 : Value}
    (x17 : PySem.W.nsIn K mainGlobals "poked_mask" = some (some (.ref a17)))
    (l17 : K.lookup a17 = some ⟨oc17, o17, .func (PySem.W.fnOf "poked_mask" "poked_mask" (C8.fnArgs s17) (C8.fnBody s17) (C8.fnScope s17) .none kV17 dc17 pm17 an17 cd17 ct17), sl17⟩) (e17 : PySem.W.codeIn K cd17 "poked_mask" = true) (u17 : PySem.W.keepIn K (.ref a17) = true)
    {o18 : Option Addr} {an18 : Option Addr} {sl18 : Array (Option Value)} {oc18 kV18 dc18 pm18 cd18 ct18 : Value}
    (x18 : PySem.W.nsIn K mainGlobals "next_masks" = some (some (.ref a18)))
    (l18 : K.lookup a18 = some ⟨oc18, o18, .func (PySem.W.fnOf "next_masks" "next_masks" (C8.fnArgs s18) (C8.fnBody s18) (C8.fnScope s18) .none kV18 dc18 pm18 an18 cd18 ct18), sl18⟩) (e18 : PySem.W.codeIn K cd18 "next_masks" = true) (u18 : PySem.W.keepIn K (.ref a18) = true)
    {T19 : Addr}
    {o19 : Option Addr} {an19 : Option Addr} {sl19 : Array (Option Value)} {oc19 kV19 dc19 pm19 cd19 ct19 : Value}
    (x19 : PySem.W.nsIn K mainGlobals "step" = some (some (.ref a19)))
    (l19 : K.lookup a19 = some ⟨oc19, o19, .func (PySem.W.fnOf "step" "step" (C8.fnArgs s19) (C8.fnBody s19) (C8.fnScope s19) (.ref T19) kV19 dc19 pm19 an19 cd19 ct19), sl19⟩) (e19 : PySem.W.codeIn K cd19 "step" = true) (u19 : PySem.W.keepIn K (.ref a19) = true)
    {U19_0 : Addr} {uo19_0 : Option Addr} {un19_0 : Nat} {us19_0 : Array (Option Value)} (w19_0 : K.lookup U19_0 = some ⟨.type "tuple", uo19_0, .seq #[] un19_0, us19_0⟩)
    {tc19 : Value} {to19 : Option Addr} {tn19 : Nat} {ts19 : Array (Option Value)} (v19 : K.lookup T19 = some ⟨tc19, to19, .seq #[.ref U19_0] tn19, ts19⟩)
    {T20 : Addr}
    {o20 : Option Addr} {an20 : Option Addr} {sl20 : Array (Option Value)} {oc20 kV20 dc20 pm20 cd20 ct20 : Value}
    (x20 : PySem.W.nsIn K mainGlobals "back" = some (some (.ref a20)))
    (l20 : K.lookup a20 = some ⟨oc20, o20, .func (PySem.W.fnOf "back" "back" (C8.fnArgs s20) (C8.fnBody s20) (C8.fnScope s20) (.ref T20) kV20 dc20 pm20 an20 cd20 ct20), sl20⟩) (e20 : PySem.W.codeIn K cd20 "back" = true) (u20 : PySem.W.keepIn K (.ref a20) = true)
    {U20_0 : Addr} {uo20_0 : Option Addr} {un20_0 : Nat} {us20_0 : Array (Option Value)} (w20_0 : K.lookup U20_0 = some ⟨.type "tuple", uo20_0, .seq #[] un20_0, us20_0⟩)
    {tc20 : Value} {to20 : Option Addr} {tn20 : Nat} {ts20 : Array (Option Value)} (v20 : K.lookup T20 = some ⟨tc20, to20, .seq #[.ref U20_0] tn20, ts20⟩)
    {o21 : Option Addr} {an21 : Option Addr} {sl21 : Array (Option Value)} {oc21 kV21 dc21 pm21 cd21 ct21 : Value}
    (x21 : PySem.W.nsIn K mainGlobals "_law_whole" = some (some (.ref a21)))
    (l21 : K.lookup a21 = some ⟨oc21, o21, .func (PySem.W.fnOf "_law_whole" "_law_whole" (C8.fnArgs s21) (C8.fnBody s21) (C8.fnScope s21) .none kV21 dc21 pm21 an21 cd21 ct21), sl21⟩) (e21 : PySem.W.codeIn K cd21 "_law_whole" = true) (u21 : PySem.W.keepIn K (.ref a21) = true)
    {o22 : Option Addr} {an22 : Option Addr} {sl22 : Array (Option Value)} {oc22 kV22 dc22 pm22 cd22 ct22 : Value}
    (x22 : PySem.W.nsIn K mainGlobals "_law_cell" = some (some (.ref a22)))
    (l22 : K.lookup a22 = some ⟨oc22, o22, .func (PySem.W.fnOf "_law_cell" "_law_cell" (C8.fnArgs s22) (C8.fnBody s22) (C8.fnScope s22) .none kV22 dc22 pm22 an22 cd22 ct22), sl22⟩) (e22 : PySem.W.codeIn K cd22 "_law_cell" = true) (u22 : PySem.W.keepIn K (.ref a22) = true)
    {o23 : Option Addr} {an23 : Option Addr} {sl23 : Array (Option Value)} {oc23 kV23 dc23 pm23 cd23 ct23 : Value}
    (x23 : PySem.W.nsIn K mainGlobals "_law_digits" = some (some (.ref a23)))
    (l23 : K.lookup a23 = some ⟨oc23, o23, .func (PySem.W.fnOf "_law_digits" "_law_digits" (C8.fnArgs s23) (C8.fnBody s23) (C8.fnScope s23) .none kV23 dc23 pm23 an23 cd23 ct23), sl23⟩) (e23 : PySem.W.codeIn K cd23 "_law_digits" = true) (u23 : PySem.W.keepIn K (.ref a23) = true)
    {o24 : Option Addr} {an24 : Option Addr} {sl24 : Array (Option Value)} {oc24 kV24 dc24 pm24 cd24 ct24 : Value}
    (x24 : PySem.W.nsIn K mainGlobals "_law_web" = some (some (.ref a24)))
    (l24 : K.lookup a24 = some ⟨oc24, o24, .func (PySem.W.fnOf "_law_web" "_law_web" (C8.fnArgs s24) (C8.fnBody s24) (C8.fnScope s24) .none kV24 dc24 pm24 an24 cd24 ct24), sl24⟩) (e24 : PySem.W.codeIn K cd24 "_law_web" = true) (u24 : PySem.W.keepIn K (.ref a24) = true)
    {o25 : Option Addr} {an25 : Option Addr} {sl25 : Array (Option Value)} {oc25 kV25 dc25 pm25 cd25 ct25 : Value}
    (x25 : PySem.W.nsIn K mainGlobals "_law_picture" = some (some (.ref a25)))
    (l25 : K.lookup a25 = some ⟨oc25, o25, .func (PySem.W.fnOf "_law_picture" "_law_picture" (C8.fnArgs s25) (C8.fnBody s25) (C8.fnScope s25) .none kV25 dc25 pm25 an25 cd25 ct25), sl25⟩) (e25 : PySem.W.codeIn K cd25 "_law_picture" = true) (u25 : PySem.W.keepIn K (.ref a25) = true)
    {o26 : Option Addr} {an26 : Option Addr} {sl26 : Array (Option Value)} {oc26 kV26 dc26 pm26 cd26 ct26 : Value}
    (x26 : PySem.W.nsIn K mainGlobals "_law_scene" = some (some (.ref a26)))
    (l26 : K.lookup a26 = some ⟨oc26, o26, .func (PySem.W.fnOf "_law_scene" "_law_scene" (C8.fnArgs s26) (C8.fnBody s26) (C8.fnScope s26) .none kV26 dc26 pm26 an26 cd26 ct26), sl26⟩) (e26 : PySem.W.codeIn K cd26 "_law_scene" = true) (u26 : PySem.W.keepIn K (.ref a26) = true)
    {o27 : Option Addr} {an27 : Option Addr} {sl27 : Array (Option Value)} {oc27 kV27 dc27 pm27 cd27 ct27 : Value}
    (x27 : PySem.W.nsIn K mainGlobals "_law_near" = some (some (.ref a27)))
    (l27 : K.lookup a27 = some ⟨oc27, o27, .func (PySem.W.fnOf "_law_near" "_law_near" (C8.fnArgs s27) (C8.fnBody s27) (C8.fnScope s27) .none kV27 dc27 pm27 an27 cd27 ct27), sl27⟩) (e27 : PySem.W.codeIn K cd27 "_law_near" = true) (u27 : PySem.W.keepIn K (.ref a27) = true)
    {o28 : Option Addr} {an28 : Option Addr} {sl28 : Array (Option Value)} {oc28 kV28 dc28 pm28 cd28 ct28 : Value}
    (x28 : PySem.W.nsIn K mainGlobals "_law_step" = some (some (.ref a28)))
    (l28 : K.lookup a28 = some ⟨oc28, o28, .func (PySem.W.fnOf "_law_step" "_law_step" (C8.fnArgs s28) (C8.fnBody s28) (C8.fnScope s28) .none kV28 dc28 pm28 an28 cd28 ct28), sl28⟩) (e28 : PySem.W.codeIn K cd28 "_law_step" = true) (u28 : PySem.W.keepIn K (.ref a28) = true)
    {o29 : Option Addr} {an29 : Option Addr} {sl29 : Array (Option Value)} {oc29 kV29 dc29 pm29 cd29 ct29 : Value}
    (x29 : PySem.W.nsIn K mainGlobals "_law_row" = some (some (.ref a29)))
    (l29 : K.lookup a29 = some ⟨oc29, o29, .func (PySem.W.fnOf "_law_row" "_law_row" (C8.fnArgs s29) (C8.fnBody s29) (C8.fnScope s29) .none kV29 dc29 pm29 an29 cd29 ct29), sl29⟩) (e29 : PySem.W.codeIn K cd29 "_law_row" = true) (u29 : PySem.W.keepIn K (.ref a29) = true)
    {o30 : Option Addr} {an30 : Option Addr} {sl30 : Array (Option Value)} {oc30 kV30 dc30 pm30 cd30 ct30 : Value}
    (x30 : PySem.W.nsIn K mainGlobals "_law_is_scene" = some (some (.ref a30)))
    (l30 : K.lookup a30 = some ⟨oc30, o30, .func (PySem.W.fnOf "_law_is_scene" "_law_is_scene" (C8.fnArgs s30) (C8.fnBody s30) (C8.fnScope s30) .none kV30 dc30 pm30 an30 cd30 ct30), sl30⟩) (e30 : PySem.W.codeIn K cd30 "_law_is_scene" = true) (u30 : PySem.W.keepIn K (.ref a30) = true)
    {o31 : Option Addr} {an31 : Option Addr} {sl31 : Array (Option Value)} {oc31 kV31 dc31 pm31 cd31 ct31 : Value}
    (x31 : PySem.W.nsIn K mainGlobals "_law_back" = some (some (.ref a31)))
    (l31 : K.lookup a31 = some ⟨oc31, o31, .func (PySem.W.fnOf "_law_back" "_law_back" (C8.fnArgs s31) (C8.fnBody s31) (C8.fnScope s31) .none kV31 dc31 pm31 an31 cd31 ct31), sl31⟩) (e31 : PySem.W.codeIn K cd31 "_law_back" = true) (u31 : PySem.W.keepIn K (.ref a31) = true)
    {o32 : Option Addr} {an32 : Option Addr} {sl32 : Array (Option Value)} {oc32 kV32 dc32 pm32 cd32 ct32 : Value}
    (x32 : PySem.W.nsIn K mainGlobals "_law_mirror" = some (some (.ref a32)))
    (l32 : K.lookup a32 = some ⟨oc32, o32, .func (PySem.W.fnOf "_law_mirror" "_law_mirror" (C8.fnArgs s32) (C8.fnBody s32) (C8.fnScope s32) .none kV32 dc32 pm32 an32 cd32 ct32), sl32⟩) (e32 : PySem.W.codeIn K cd32 "_law_mirror" = true) (u32 : PySem.W.keepIn K (.ref a32) = true)
    {o33 : Option Addr} {an33 : Option Addr} {sl33 : Array (Option Value)} {oc33 kV33 dc33 pm33 cd33 ct33 : Value}
    (x33 : PySem.W.nsIn K mainGlobals "_law_thread" = some (some (.ref a33)))
    (l33 : K.lookup a33 = some ⟨oc33, o33, .func (PySem.W.fnOf "_law_thread" "_law_thread" (C8.fnArgs s33) (C8.fnBody s33) (C8.fnScope s33) .none kV33 dc33 pm33 an33 cd33 ct33), sl33⟩) (e33 : PySem.W.codeIn K cd33 "_law_thread" = true) (u33 : PySem.W.keepIn K (.ref a33) = true)
    {o34 : Option Addr} {an34 : Option Addr} {sl34 : Array (Option Value)} {oc34 kV34 dc34 pm34 cd34 ct34 : Value}
    (x34 : PySem.W.nsIn K mainGlobals "_law_asked" = some (some (.ref a34)))
    (l34 : K.lookup a34 = some ⟨oc34, o34, .func (PySem.W.fnOf "_law_asked" "_law_asked" (C8.fnArgs s34) (C8.fnBody s34) (C8.fnScope s34) .none kV34 dc34 pm34 an34 cd34 ct34), sl34⟩) (e34 : PySem.W.codeIn K cd34 "_law_asked" = true) (u34 : PySem.W.keepIn K (.ref a34) = true)
    {o35 : Option Addr} {an35 : Option Addr} {sl35 : Array (Option Value)} {oc35 kV35 dc35 pm35 cd35 ct35 : Value}
    (x35 : PySem.W.nsIn K mainGlobals "law" = some (some (.ref a35)))
    (l35 : K.lookup a35 = some ⟨oc35, o35, .func (PySem.W.fnOf "law" "law" (C8.fnArgs s35) (C8.fnBody s35) (C8.fnScope s35) .none kV35 dc35 pm35 an35 cd35 ct35), sl35⟩) (e35 : PySem.W.codeIn K cd35 "law" = true) (u35 : PySem.W.keepIn K (.ref a35) = true)
    (ghn : PySem.W.specialIn K (.builtin "object.__class__") "__get__" = some (some (.builtin "getset_descriptor.__get__"))) (gtk : PySem.W.takesIn K (.builtin "object.__class__") = some true)
    (z_bool : PySem.W.nsIn K mainGlobals "bool" = some none)
    (z_enumerate : PySem.W.nsIn K mainGlobals "enumerate" = some none)
    (z_int : PySem.W.nsIn K mainGlobals "int" = some none)
    (z_isinstance : PySem.W.nsIn K mainGlobals "isinstance" = some none)
    (z_len : PySem.W.nsIn K mainGlobals "len" = some none)
    (z_list : PySem.W.nsIn K mainGlobals "list" = some none)
    (z_max : PySem.W.nsIn K mainGlobals "max" = some none)
    (z_min : PySem.W.nsIn K mainGlobals "min" = some none)
    (z_range : PySem.W.nsIn K mainGlobals "range" = some none)
    (z_set : PySem.W.nsIn K mainGlobals "set" = some none)
    (z_sorted : PySem.W.nsIn K mainGlobals "sorted" = some none)
    (z_tuple : PySem.W.nsIn K mainGlobals "tuple" = some none) :
    Facts K mg C0 C1 a0 a1 a2 a3 a4 a5 a6 a7 a8 a9 a10 a11 a12 a13 a14 a15 a16 a17 a18 a19 a20 a21 a22 a23 a24 a25 a26 a27 a28 a29 a30 a31 a32 a33 a34 a35 (PySem.W.fnOf "places_of" "places_of" (C8.fnArgs s0) (C8.fnBody s0) (C8.fnScope s0) .none kV0 dc0 pm0 an0 cd0 ct0) (PySem.W.fnOf "near_masks" "near_masks" (C8.fnArgs s1) (C8.fnBody s1) (C8.fnScope s1) .none kV1 dc1 pm1 an1 cd1 ct1) (PySem.W.fnOf "spread" "spread" (C8.fnArgs s2) (C8.fnBody s2) (C8.fnScope s2) .none kV2 dc2 pm2 an2 cd2 ct2) (PySem.W.fnOf "__init__" "Web.__init__" (C8.fnArgs s3) (C8.fnBody s3) (C8.fnScope s3) (.ref T3) kV3 dc3 pm3 an3 cd3 ct3) (PySem.W.fnOf "near" "Web.near" (C8.fnArgs s4) (C8.fnBody s4) (C8.fnScope s4) .none kV4 dc4 pm4 an4 cd4 ct4) (PySem.W.fnOf "__contains__" "Web.__contains__" (C8.fnArgs s5) (C8.fnBody s5) (C8.fnScope s5) .none kV5 dc5 pm5 an5 cd5 ct5) (PySem.W.fnOf "__len__" "Web.__len__" (C8.fnArgs s6) (C8.fnBody s6) (C8.fnScope s6) .none kV6 dc6 pm6 an6 cd6 ct6) (PySem.W.fnOf "__add__" "Web.__add__" (C8.fnArgs s7) (C8.fnBody s7) (C8.fnScope s7) .none kV7 dc7 pm7 an7 cd7 ct7) (PySem.W.fnOf "__eq__" "Web.__eq__" (C8.fnArgs s8) (C8.fnBody s8) (C8.fnScope s8) .none kV8 dc8 pm8 an8 cd8 ct8) (PySem.W.fnOf "check_lines" "check_lines" (C8.fnArgs s9) (C8.fnBody s9) (C8.fnScope s9) .none kV9 dc9 pm9 an9 cd9 ct9) (PySem.W.fnOf "check_places" "check_places" (C8.fnArgs s10) (C8.fnBody s10) (C8.fnScope s10) .none kV10 dc10 pm10 an10 cd10 ct10) (PySem.W.fnOf "__init__" "Scene.__init__" (C8.fnArgs s11) (C8.fnBody s11) (C8.fnScope s11) .none kV11 dc11 pm11 an11 cd11 ct11) (PySem.W.fnOf "__eq__" "Scene.__eq__" (C8.fnArgs s12) (C8.fnBody s12) (C8.fnScope s12) .none kV12 dc12 pm12 an12 cd12 ct12) (PySem.W.fnOf "check_picture" "check_picture" (C8.fnArgs s13) (C8.fnBody s13) (C8.fnScope s13) .none kV13 dc13 pm13 an13 cd13 ct13) (PySem.W.fnOf "mirror" "mirror" (C8.fnArgs s14) (C8.fnBody s14) (C8.fnScope s14) .none kV14 dc14 pm14 an14 cd14 ct14) (PySem.W.fnOf "masks_of_scene" "masks_of_scene" (C8.fnArgs s15) (C8.fnBody s15) (C8.fnScope s15) .none kV15 dc15 pm15 an15 cd15 ct15) (PySem.W.fnOf "scene_of_masks" "scene_of_masks" (C8.fnArgs s16) (C8.fnBody s16) (C8.fnScope s16) .none kV16 dc16 pm16 an16 cd16 ct16) (PySem.W.fnOf "poked_mask" "poked_mask" (C8.fnArgs s17) (C8.fnBody s17) (C8.fnScope s17) .none kV17 dc17 pm17 an17 cd17 ct17) (PySem.W.fnOf "next_masks" "next_masks" (C8.fnArgs s18) (C8.fnBody s18) (C8.fnScope s18) .none kV18 dc18 pm18 an18 cd18 ct18) (PySem.W.fnOf "step" "step" (C8.fnArgs s19) (C8.fnBody s19) (C8.fnScope s19) (.ref T19) kV19 dc19 pm19 an19 cd19 ct19) (PySem.W.fnOf "back" "back" (C8.fnArgs s20) (C8.fnBody s20) (C8.fnScope s20) (.ref T20) kV20 dc20 pm20 an20 cd20 ct20) (PySem.W.fnOf "_law_whole" "_law_whole" (C8.fnArgs s21) (C8.fnBody s21) (C8.fnScope s21) .none kV21 dc21 pm21 an21 cd21 ct21) (PySem.W.fnOf "_law_cell" "_law_cell" (C8.fnArgs s22) (C8.fnBody s22) (C8.fnScope s22) .none kV22 dc22 pm22 an22 cd22 ct22) (PySem.W.fnOf "_law_digits" "_law_digits" (C8.fnArgs s23) (C8.fnBody s23) (C8.fnScope s23) .none kV23 dc23 pm23 an23 cd23 ct23) (PySem.W.fnOf "_law_web" "_law_web" (C8.fnArgs s24) (C8.fnBody s24) (C8.fnScope s24) .none kV24 dc24 pm24 an24 cd24 ct24) (PySem.W.fnOf "_law_picture" "_law_picture" (C8.fnArgs s25) (C8.fnBody s25) (C8.fnScope s25) .none kV25 dc25 pm25 an25 cd25 ct25) (PySem.W.fnOf "_law_scene" "_law_scene" (C8.fnArgs s26) (C8.fnBody s26) (C8.fnScope s26) .none kV26 dc26 pm26 an26 cd26 ct26) (PySem.W.fnOf "_law_near" "_law_near" (C8.fnArgs s27) (C8.fnBody s27) (C8.fnScope s27) .none kV27 dc27 pm27 an27 cd27 ct27) (PySem.W.fnOf "_law_step" "_law_step" (C8.fnArgs s28) (C8.fnBody s28) (C8.fnScope s28) .none kV28 dc28 pm28 an28 cd28 ct28) (PySem.W.fnOf "_law_row" "_law_row" (C8.fnArgs s29) (C8.fnBody s29) (C8.fnScope s29) .none kV29 dc29 pm29 an29 cd29 ct29) (PySem.W.fnOf "_law_is_scene" "_law_is_scene" (C8.fnArgs s30) (C8.fnBody s30) (C8.fnScope s30) .none kV30 dc30 pm30 an30 cd30 ct30) (PySem.W.fnOf "_law_back" "_law_back" (C8.fnArgs s31) (C8.fnBody s31) (C8.fnScope s31) .none kV31 dc31 pm31 an31 cd31 ct31) (PySem.W.fnOf "_law_mirror" "_law_mirror" (C8.fnArgs s32) (C8.fnBody s32) (C8.fnScope s32) .none kV32 dc32 pm32 an32 cd32 ct32) (PySem.W.fnOf "_law_thread" "_law_thread" (C8.fnArgs s33) (C8.fnBody s33) (C8.fnScope s33) .none kV33 dc33 pm33 an33 cd33 ct33) (PySem.W.fnOf "_law_asked" "_law_asked" (C8.fnArgs s34) (C8.fnBody s34) (C8.fnScope s34) .none kV34 dc34 pm34 an34 cd34 ct34) (PySem.W.fnOf "law" "law" (C8.fnArgs s35) (C8.fnBody s35) (C8.fnScope s35) .none kV35 dc35 pm35 an35 cd35 ct35) := {
      at0 := ⟨⟨_, _, _, _, _, _, _, _, _, _, rfl, l0, e0⟩, PySem.W.mg_of X G x0, u0, C8.Fun.binds (x := "places_of") (qual := "places_of") (st := s0) (f := a0) ⟨_, _, _, _, _, _, _, _, _, _, rfl, l0, e0⟩ rfl fun _ _ _ _ _ _ us hl => match us, hl with | [_], _ => rfl⟩
      at1 := ⟨⟨_, _, _, _, _, _, _, _, _, _, rfl, l1, e1⟩, PySem.W.mg_of X G x1, u1, C8.Fun.binds (x := "near_masks") (qual := "near_masks") (st := s1) (f := a1) ⟨_, _, _, _, _, _, _, _, _, _, rfl, l1, e1⟩ rfl fun _ _ _ _ _ _ us hl => match us, hl with | [_, _], _ => rfl⟩
      at2 := ⟨⟨_, _, _, _, _, _, _, _, _, _, rfl, l2, e2⟩, PySem.W.mg_of X G x2, u2, C8.Fun.binds (x := "spread") (qual := "spread") (st := s2) (f := a2) ⟨_, _, _, _, _, _, _, _, _, _, rfl, l2, e2⟩ rfl fun _ _ _ _ _ _ us hl => match us, hl with | [_, _], _ => rfl⟩
      at3 := ⟨⟨_, _, _, _, _, _, _, _, _, _, rfl, l3, e3⟩, x3, i3, u3, binds_d (x := "__init__") (qual := "Web.__init__") (st := s3) (ps := q3) (its := [.ref U3_0]) v3 rfl [] fun us hl => match us, (show us.length = 3 from by have h' := hl; rw [List.length_append] at h'; have e : (q3).length = 3 := rfl; have e2 : ([] : List Value).length = 0 := rfl; omega) with | [_, _, _], _ => ⟨_, rfl, rfl⟩⟩
      at4 := ⟨⟨_, _, _, _, _, _, _, _, _, _, rfl, l4, e4⟩, x4, i4, u4, C8.Fun.binds (x := "near") (qual := "Web.near") (st := s4) (f := a4) ⟨_, _, _, _, _, _, _, _, _, _, rfl, l4, e4⟩ rfl fun _ _ _ _ _ _ us hl => match us, hl with | [_, _], _ => rfl⟩
      at5 := ⟨⟨_, _, _, _, _, _, _, _, _, _, rfl, l5, e5⟩, x5, i5, u5, C8.Fun.binds (x := "__contains__") (qual := "Web.__contains__") (st := s5) (f := a5) ⟨_, _, _, _, _, _, _, _, _, _, rfl, l5, e5⟩ rfl fun _ _ _ _ _ _ us hl => match us, hl with | [_, _], _ => rfl⟩
      at6 := ⟨⟨_, _, _, _, _, _, _, _, _, _, rfl, l6, e6⟩, x6, i6, u6, C8.Fun.binds (x := "__len__") (qual := "Web.__len__") (st := s6) (f := a6) ⟨_, _, _, _, _, _, _, _, _, _, rfl, l6, e6⟩ rfl fun _ _ _ _ _ _ us hl => match us, hl with | [_], _ => rfl⟩
      at7 := ⟨⟨_, _, _, _, _, _, _, _, _, _, rfl, l7, e7⟩, x7, i7, u7, C8.Fun.binds (x := "__add__") (qual := "Web.__add__") (st := s7) (f := a7) ⟨_, _, _, _, _, _, _, _, _, _, rfl, l7, e7⟩ rfl fun _ _ _ _ _ _ us hl => match us, hl with | [_, _], _ => rfl⟩
      at8 := ⟨⟨_, _, _, _, _, _, _, _, _, _, rfl, l8, e8⟩, x8, i8, u8, C8.Fun.binds (x := "__eq__") (qual := "Web.__eq__") (st := s8) (f := a8) ⟨_, _, _, _, _, _, _, _, _, _, rfl, l8, e8⟩ rfl fun _ _ _ _ _ _ us hl => match us, hl with | [_, _], _ => rfl⟩
      at9 := ⟨⟨_, _, _, _, _, _, _, _, _, _, rfl, l9, e9⟩, PySem.W.mg_of X G x9, u9, C8.Fun.binds (x := "check_lines") (qual := "check_lines") (st := s9) (f := a9) ⟨_, _, _, _, _, _, _, _, _, _, rfl, l9, e9⟩ rfl fun _ _ _ _ _ _ us hl => match us, hl with | [_, _], _ => rfl⟩
      at10 := ⟨⟨_, _, _, _, _, _, _, _, _, _, rfl, l10, e10⟩, PySem.W.mg_of X G x10, u10, C8.Fun.binds (x := "check_places") (qual := "check_places") (st := s10) (f := a10) ⟨_, _, _, _, _, _, _, _, _, _, rfl, l10, e10⟩ rfl fun _ _ _ _ _ _ us hl => match us, hl with | [_, _], _ => rfl⟩
      at11 := ⟨⟨_, _, _, _, _, _, _, _, _, _, rfl, l11, e11⟩, x11, i11, u11, C8.Fun.binds (x := "__init__") (qual := "Scene.__init__") (st := s11) (f := a11) ⟨_, _, _, _, _, _, _, _, _, _, rfl, l11, e11⟩ rfl fun _ _ _ _ _ _ us hl => match us, hl with | [_, _, _], _ => rfl⟩
      at12 := ⟨⟨_, _, _, _, _, _, _, _, _, _, rfl, l12, e12⟩, x12, i12, u12, C8.Fun.binds (x := "__eq__") (qual := "Scene.__eq__") (st := s12) (f := a12) ⟨_, _, _, _, _, _, _, _, _, _, rfl, l12, e12⟩ rfl fun _ _ _ _ _ _ us hl => match us, hl with | [_, _], _ => rfl⟩
      at13 := ⟨⟨_, _, _, _, _, _, _, _, _, _, rfl, l13, e13⟩, PySem.W.mg_of X G x13, u13, C8.Fun.binds (x := "check_picture") (qual := "check_picture") (st := s13) (f := a13) ⟨_, _, _, _, _, _, _, _, _, _, rfl, l13, e13⟩ rfl fun _ _ _ _ _ _ us hl => match us, hl with | [_, _], _ => rfl⟩
      at14 := ⟨⟨_, _, _, _, _, _, _, _, _, _, rfl, l14, e14⟩, PySem.W.mg_of X G x14, u14, C8.Fun.binds (x := "mirror") (qual := "mirror") (st := s14) (f := a14) ⟨_, _, _, _, _, _, _, _, _, _, rfl, l14, e14⟩ rfl fun _ _ _ _ _ _ us hl => match us, hl with | [_], _ => rfl⟩
      at15 := ⟨⟨_, _, _, _, _, _, _, _, _, _, rfl, l15, e15⟩, PySem.W.mg_of X G x15, u15, C8.Fun.binds (x := "masks_of_scene") (qual := "masks_of_scene") (st := s15) (f := a15) ⟨_, _, _, _, _, _, _, _, _, _, rfl, l15, e15⟩ rfl fun _ _ _ _ _ _ us hl => match us, hl with | [_], _ => rfl⟩
      at16 := ⟨⟨_, _, _, _, _, _, _, _, _, _, rfl, l16, e16⟩, PySem.W.mg_of X G x16, u16, C8.Fun.binds (x := "scene_of_masks") (qual := "scene_of_masks") (st := s16) (f := a16) ⟨_, _, _, _, _, _, _, _, _, _, rfl, l16, e16⟩ rfl fun _ _ _ _ _ _ us hl => match us, hl with | [_, _], _ => rfl⟩
      at17 := ⟨⟨_, _, _, _, _, _, _, _, _, _, rfl, l17, e17⟩, PySem.W.mg_of X G x17, u17, C8.Fun.binds (x := "poked_mask") (qual := "poked_mask") (st := s17) (f := a17) ⟨_, _, _, _, _, _, _, _, _, _, rfl, l17, e17⟩ rfl fun _ _ _ _ _ _ us hl => match us, hl with | [_, _], _ => rfl⟩
      at18 := ⟨⟨_, _, _, _, _, _, _, _, _, _, rfl, l18, e18⟩, PySem.W.mg_of X G x18, u18, C8.Fun.binds (x := "next_masks") (qual := "next_masks") (st := s18) (f := a18) ⟨_, _, _, _, _, _, _, _, _, _, rfl, l18, e18⟩ rfl fun _ _ _ _ _ _ us hl => match us, hl with | [_, _, _], _ => rfl⟩
      at19 := ⟨⟨_, _, _, _, _, _, _, _, _, _, rfl, l19, e19⟩, PySem.W.mg_of X G x19, u19, binds_d (x := "step") (qual := "step") (st := s19) (ps := q19) (its := [.ref U19_0]) v19 rfl [] fun us hl => match us, (show us.length = 2 from by have h' := hl; rw [List.length_append] at h'; have e : (q19).length = 2 := rfl; have e2 : ([] : List Value).length = 0 := rfl; omega) with | [_, _], _ => ⟨_, rfl, rfl⟩⟩
      at20 := ⟨⟨_, _, _, _, _, _, _, _, _, _, rfl, l20, e20⟩, PySem.W.mg_of X G x20, u20, binds_d (x := "back") (qual := "back") (st := s20) (ps := q20) (its := [.ref U20_0]) v20 rfl [] fun us hl => match us, (show us.length = 2 from by have h' := hl; rw [List.length_append] at h'; have e : (q20).length = 2 := rfl; have e2 : ([] : List Value).length = 0 := rfl; omega) with | [_, _], _ => ⟨_, rfl, rfl⟩⟩
      kb20_1 := kb_d (x := "back") (qual := "back") (st := s20) (ps := q20) (its := [.ref U20_0]) v20 rfl fun us ws h1 h2 => match us, ws, h1, h2 with | [_], [_], _, _ => ⟨_, rfl, rfl⟩
      bd20_1 := ⟨_, binds_d (x := "back") (qual := "back") (st := s20) (ps := q20) (its := [.ref U20_0]) v20 rfl [.ref U20_0] fun us hl => match us, (show us.length = 1 from by have h' := hl; rw [List.length_append] at h'; have e : (q20).length = 2 := rfl; have e2 : ([.ref U20_0] : List Value).length = 1 := rfl; omega) with | [_], _ => ⟨_, rfl, rfl⟩, dfl_cons (dfl_unit w20_0 rfl rfl) (dfl_nil)⟩
      at21 := ⟨⟨_, _, _, _, _, _, _, _, _, _, rfl, l21, e21⟩, PySem.W.mg_of X G x21, u21, C8.Fun.binds (x := "_law_whole") (qual := "_law_whole") (st := s21) (f := a21) ⟨_, _, _, _, _, _, _, _, _, _, rfl, l21, e21⟩ rfl fun _ _ _ _ _ _ us hl => match us, hl with | [_], _ => rfl⟩
      at22 := ⟨⟨_, _, _, _, _, _, _, _, _, _, rfl, l22, e22⟩, PySem.W.mg_of X G x22, u22, C8.Fun.binds (x := "_law_cell") (qual := "_law_cell") (st := s22) (f := a22) ⟨_, _, _, _, _, _, _, _, _, _, rfl, l22, e22⟩ rfl fun _ _ _ _ _ _ us hl => match us, hl with | [_, _], _ => rfl⟩
      at23 := ⟨⟨_, _, _, _, _, _, _, _, _, _, rfl, l23, e23⟩, PySem.W.mg_of X G x23, u23, C8.Fun.binds (x := "_law_digits") (qual := "_law_digits") (st := s23) (f := a23) ⟨_, _, _, _, _, _, _, _, _, _, rfl, l23, e23⟩ rfl fun _ _ _ _ _ _ us hl => match us, hl with | [_, _], _ => rfl⟩
      at24 := ⟨⟨_, _, _, _, _, _, _, _, _, _, rfl, l24, e24⟩, PySem.W.mg_of X G x24, u24, C8.Fun.binds (x := "_law_web") (qual := "_law_web") (st := s24) (f := a24) ⟨_, _, _, _, _, _, _, _, _, _, rfl, l24, e24⟩ rfl fun _ _ _ _ _ _ us hl => match us, hl with | [_, _], _ => rfl⟩
      at25 := ⟨⟨_, _, _, _, _, _, _, _, _, _, rfl, l25, e25⟩, PySem.W.mg_of X G x25, u25, C8.Fun.binds (x := "_law_picture") (qual := "_law_picture") (st := s25) (f := a25) ⟨_, _, _, _, _, _, _, _, _, _, rfl, l25, e25⟩ rfl fun _ _ _ _ _ _ us hl => match us, hl with | [_, _], _ => rfl⟩
      at26 := ⟨⟨_, _, _, _, _, _, _, _, _, _, rfl, l26, e26⟩, PySem.W.mg_of X G x26, u26, C8.Fun.binds (x := "_law_scene") (qual := "_law_scene") (st := s26) (f := a26) ⟨_, _, _, _, _, _, _, _, _, _, rfl, l26, e26⟩ rfl fun _ _ _ _ _ _ us hl => match us, hl with | [_, _, _], _ => rfl⟩
      at27 := ⟨⟨_, _, _, _, _, _, _, _, _, _, rfl, l27, e27⟩, PySem.W.mg_of X G x27, u27, C8.Fun.binds (x := "_law_near") (qual := "_law_near") (st := s27) (f := a27) ⟨_, _, _, _, _, _, _, _, _, _, rfl, l27, e27⟩ rfl fun _ _ _ _ _ _ us hl => match us, hl with | [_, _], _ => rfl⟩
      at28 := ⟨⟨_, _, _, _, _, _, _, _, _, _, rfl, l28, e28⟩, PySem.W.mg_of X G x28, u28, C8.Fun.binds (x := "_law_step") (qual := "_law_step") (st := s28) (f := a28) ⟨_, _, _, _, _, _, _, _, _, _, rfl, l28, e28⟩ rfl fun _ _ _ _ _ _ us hl => match us, hl with | [_, _, _], _ => rfl⟩
      at29 := ⟨⟨_, _, _, _, _, _, _, _, _, _, rfl, l29, e29⟩, PySem.W.mg_of X G x29, u29, C8.Fun.binds (x := "_law_row") (qual := "_law_row") (st := s29) (f := a29) ⟨_, _, _, _, _, _, _, _, _, _, rfl, l29, e29⟩ rfl fun _ _ _ _ _ _ us hl => match us, hl with | [_, _], _ => rfl⟩
      at30 := ⟨⟨_, _, _, _, _, _, _, _, _, _, rfl, l30, e30⟩, PySem.W.mg_of X G x30, u30, C8.Fun.binds (x := "_law_is_scene") (qual := "_law_is_scene") (st := s30) (f := a30) ⟨_, _, _, _, _, _, _, _, _, _, rfl, l30, e30⟩ rfl fun _ _ _ _ _ _ us hl => match us, hl with | [_, _, _], _ => rfl⟩
      at31 := ⟨⟨_, _, _, _, _, _, _, _, _, _, rfl, l31, e31⟩, PySem.W.mg_of X G x31, u31, C8.Fun.binds (x := "_law_back") (qual := "_law_back") (st := s31) (f := a31) ⟨_, _, _, _, _, _, _, _, _, _, rfl, l31, e31⟩ rfl fun _ _ _ _ _ _ us hl => match us, hl with | [_, _, _], _ => rfl⟩
      at32 := ⟨⟨_, _, _, _, _, _, _, _, _, _, rfl, l32, e32⟩, PySem.W.mg_of X G x32, u32, C8.Fun.binds (x := "_law_mirror") (qual := "_law_mirror") (st := s32) (f := a32) ⟨_, _, _, _, _, _, _, _, _, _, rfl, l32, e32⟩ rfl fun _ _ _ _ _ _ us hl => match us, hl with | [_], _ => rfl⟩
      at33 := ⟨⟨_, _, _, _, _, _, _, _, _, _, rfl, l33, e33⟩, PySem.W.mg_of X G x33, u33, C8.Fun.binds (x := "_law_thread") (qual := "_law_thread") (st := s33) (f := a33) ⟨_, _, _, _, _, _, _, _, _, _, rfl, l33, e33⟩ rfl fun _ _ _ _ _ _ us hl => match us, hl with | [_], _ => rfl⟩
      at34 := ⟨⟨_, _, _, _, _, _, _, _, _, _, rfl, l34, e34⟩, PySem.W.mg_of X G x34, u34, C8.Fun.binds (x := "_law_asked") (qual := "_law_asked") (st := s34) (f := a34) ⟨_, _, _, _, _, _, _, _, _, _, rfl, l34, e34⟩ rfl fun _ _ _ _ _ _ us hl => match us, hl with | [_, _, _, _, _], _ => rfl⟩
      at35 := ⟨⟨_, _, _, _, _, _, _, _, _, _, rfl, l35, e35⟩, PySem.W.mg_of X G x35, u35, C8.Fun.binds (x := "law") (qual := "law") (st := s35) (f := a35) ⟨_, _, _, _, _, _, _, _, _, _, rfl, l35, e35⟩ rfl fun _ _ _ _ _ _ us hl => match us, hl with | [_], _ => rfl⟩
      cl0 := ⟨pg0, hd0, po0, sa0⟩
      na0 := fun x hx => by
        simp only [names, List.mem_cons, List.not_mem_nil, or_false] at hx
        rcases hx with rfl | rfl | rfl | rfl | rfl | rfl
        · exact n0_0
        · exact n0_1
        · exact n0_2
        · exact n0_3
        · exact n0_4
        · exact n0_5
      in0 := ⟨⟨pg0, hd0, po0, sa0⟩, ha0, ghn, gtk, hm0, me0⟩
      mk0 := mk0
      kc0 := kc0
      mc0 := PySem.W.mg_of X G cx0
      sf0 := sf0
      cl1 := ⟨pg1, hd1, po1, sa1⟩
      na1 := fun x hx => by
        simp only [names, List.mem_cons, List.not_mem_nil, or_false] at hx
        rcases hx with rfl | rfl | rfl | rfl | rfl | rfl
        · exact n1_0
        · exact n1_1
        · exact n1_2
        · exact n1_3
        · exact n1_4
        · exact n1_5
      in1 := ⟨⟨pg1, hd1, po1, sa1⟩, ha1, ghn, gtk, hm1, me1⟩
      mk1 := mk1
      kc1 := kc1
      mc1 := PySem.W.mg_of X G cx1
      sf1 := sf1
      gt_MIRRORED := gt_mk (PySem.W.mg_of X G xg_MIRRORED) lg_MIRRORED rfl rfl rfl (vals_int (vals_int (vals_int .nil)))
      b_bool := PySem.W.mg_none_of X G z_bool
      b_enumerate := PySem.W.mg_none_of X G z_enumerate
      b_int := PySem.W.mg_none_of X G z_int
      b_isinstance := PySem.W.mg_none_of X G z_isinstance
      b_len := PySem.W.mg_none_of X G z_len
      b_list := PySem.W.mg_none_of X G z_list
      b_max := PySem.W.mg_none_of X G z_max
      b_min := PySem.W.mg_none_of X G z_min
      b_range := PySem.W.mg_none_of X G z_range
      b_set := PySem.W.mg_none_of X G z_set
      b_sorted := PySem.W.mg_none_of X G z_sorted
      b_tuple := PySem.W.mg_none_of X G z_tuple }
theorem fin {P : Program} {w : World} {K : PySem.W.Frag} {h : Heap} {mg : Str → Option Value} {fa C0 C1 a0 a1 a2 a3 a4 a5 a6 a7 a8 a9 a10 a11 a12 a13 a14 a15 a16 a17 a18 a19 a20 a21 a22 a23 a24 a25 a26 a27 a28 a29 a30 a31 a32 a33 a34 a35 : Addr} {wf d : Nat} (main : ∀ ns : List Int, ns.length ≤ 63 → runD (Gn wf d) f35 [.lst .ro (ns.map D.int)] = some (.bl true)) (X : K.In h) (G : h.Ns mainGlobals mg) (hfa : mg "law" = some (.ref fa))
    (cx0 : PySem.W.nsIn K mainGlobals "Web" = some (some (.ref C0))) (pg0 : PySem.W.plainGet K C0 Str.empty = true) (hd0 : PySem.W.hasDictIn K C0 = true) (po0 : PySem.W.plainOver K C0 = true) (sa0 : PySem.W.findIn K (.ref C0) "__setattr__" = some (some (.builtin "object.__setattr__"))) (mk0 : PySem.W.makesIn K C0 = true) (kc0 : PySem.W.keepIn K (.ref C0) = true) (sf0 : PySem.W.selfFirst K C0 = true) (ha0 : PySem.W.findIn K (.ref C0) "__class__" = some (some (.builtin "object.__class__"))) (hm0 : PySem.W.mroIn K C0 (.type "object") = some true) (me0 : PySem.W.kitOne K (.ref C0) (.ref C0) = some true)
    (n0_0 : PySem.W.findIn K (.ref C0) "size" = some none)
    (n0_1 : PySem.W.findIn K (.ref C0) "lines" = some none)
    (n0_2 : PySem.W.findIn K (.ref C0) "masks" = some none)
    (n0_3 : PySem.W.findIn K (.ref C0) "_near" = some none)
    (n0_4 : PySem.W.findIn K (.ref C0) "web" = some none)
    (n0_5 : PySem.W.findIn K (.ref C0) "picture" = some none)
    (cx1 : PySem.W.nsIn K mainGlobals "Scene" = some (some (.ref C1))) (pg1 : PySem.W.plainGet K C1 Str.empty = true) (hd1 : PySem.W.hasDictIn K C1 = true) (po1 : PySem.W.plainOver K C1 = true) (sa1 : PySem.W.findIn K (.ref C1) "__setattr__" = some (some (.builtin "object.__setattr__"))) (mk1 : PySem.W.makesIn K C1 = true) (kc1 : PySem.W.keepIn K (.ref C1) = true) (sf1 : PySem.W.selfFirst K C1 = true) (ha1 : PySem.W.findIn K (.ref C1) "__class__" = some (some (.builtin "object.__class__"))) (hm1 : PySem.W.mroIn K C1 (.type "object") = some true) (me1 : PySem.W.kitOne K (.ref C1) (.ref C1) = some true)
    (n1_0 : PySem.W.findIn K (.ref C1) "size" = some none)
    (n1_1 : PySem.W.findIn K (.ref C1) "lines" = some none)
    (n1_2 : PySem.W.findIn K (.ref C1) "masks" = some none)
    (n1_3 : PySem.W.findIn K (.ref C1) "_near" = some none)
    (n1_4 : PySem.W.findIn K (.ref C1) "web" = some none)
    (n1_5 : PySem.W.findIn K (.ref C1) "picture" = some none)
    {G_MIRRORED : Addr} {go_MIRRORED : Option Addr} {gn_MIRRORED : Nat} {gs_MIRRORED : Array (Option Value)} {gt_MIRRORED_0 : Tok} {gt_MIRRORED_1 : Tok} {gt_MIRRORED_2 : Tok} (xg_MIRRORED : PySem.W.nsIn K mainGlobals "MIRRORED" = some (some (.ref G_MIRRORED))) (lg_MIRRORED : K.lookup G_MIRRORED = some ⟨.type "tuple", go_MIRRORED, .seq #[.int 0 gt_MIRRORED_0, .int 2 gt_MIRRORED_1, .int 1 gt_MIRRORED_2] gn_MIRRORED, gs_MIRRORED⟩)
    {o0 : Option Addr} {an0 : Option Addr} {sl0 : Array (Option Value)} {oc0 kV0 dc0 pm0 cd0 ct0 : Value}
    (x0 : PySem.W.nsIn K mainGlobals "places_of" = some (some (.ref a0)))
    (l0 : K.lookup a0 = some ⟨oc0, o0, .func (PySem.W.fnOf "places_of" "places_of" (C8.fnArgs s0) (C8.fnBody s0) (C8.fnScope s0) .none kV0 dc0 pm0 an0 cd0 ct0), sl0⟩) (e0 : PySem.W.codeIn K cd0 "places_of" = true) (u0 : PySem.W.keepIn K (.ref a0) = true)
    {o1 : Option Addr} {an1 : Option Addr} {sl1 : Array (Option Value)} {oc1 kV1 dc1 pm1 cd1 ct1 : Value}
    (x1 : PySem.W.nsIn K mainGlobals "near_masks" = some (some (.ref a1)))
    (l1 : K.lookup a1 = some ⟨oc1, o1, .func (PySem.W.fnOf "near_masks" "near_masks" (C8.fnArgs s1) (C8.fnBody s1) (C8.fnScope s1) .none kV1 dc1 pm1 an1 cd1 ct1), sl1⟩) (e1 : PySem.W.codeIn K cd1 "near_masks" = true) (u1 : PySem.W.keepIn K (.ref a1) = true)
    {o2 : Option Addr} {an2 : Option Addr} {sl2 : Array (Option Value)} {oc2 kV2 dc2 pm2 cd2 ct2 : Value}
    (x2 : PySem.W.nsIn K mainGlobals "spread" = some (some (.ref a2)))
    (l2 : K.lookup a2 = some ⟨oc2, o2, .func (PySem.W.fnOf "spread" "spread" (C8.fnArgs s2) (C8.fnBody s2) (C8.fnScope s2) .none kV2 dc2 pm2 an2 cd2 ct2), sl2⟩) (e2 : PySem.W.codeIn K cd2 "spread" = true) (u2 : PySem.W.keepIn K (.ref a2) = true)
    {T3 : Addr}
    {o3 : Option Addr} {an3 : Option Addr} {sl3 : Array (Option Value)} {oc3 kV3 dc3 pm3 cd3 ct3 : Value}
    (x3 : PySem.W.findIn K (.ref C0) "__init__" = some (some (.ref a3))) (i3 : PySem.W.isFn K (.ref a3) = true)
    (l3 : K.lookup a3 = some ⟨oc3, o3, .func (PySem.W.fnOf "__init__" "Web.__init__" (C8.fnArgs s3) (C8.fnBody s3) (C8.fnScope s3) (.ref T3) kV3 dc3 pm3 an3 cd3 ct3), sl3⟩) (e3 : PySem.W.codeIn K cd3 "Web.__init__" = true) (u3 : PySem.W.keepIn K (.ref a3) = true)
    {U3_0 : Addr} {uo3_0 : Option Addr} {un3_0 : Nat} {us3_0 : Array (Option Value)} (w3_0 : K.lookup U3_0 = some ⟨.type "tuple", uo3_0, .seq #[] un3_0, us3_0⟩)
    {tc3 : Value} {to3 : Option Addr} {tn3 : Nat} {ts3 : Array (Option Value)} (v3 : K.lookup T3 = some ⟨tc3, to3, .seq #[.ref U3_0] tn3, ts3⟩)
    {o4 : Option Addr} {an4 : Option Addr} {sl4 : Array (Option Value)} {oc4 kV4 dc4 pm4 cd4 ct4 : Value}
    (x4 : PySem.W.findIn K (.ref C0) "near" = some (some (.ref a4))) (i4 : PySem.W.isFn K (.ref a4) = true)
    (l4 : K.lookup a4 = some ⟨oc4, o4, .func (PySem.W.fnOf "near" "Web.near" (C8.fnArgs s4) (C8.fnBody s4) (C8.fnScope s4) .none kV4 dc4 pm4 an4 cd4 ct4), sl4⟩) (e4 : PySem.W.codeIn K cd4 "Web.near" = true) (u4 : PySem.W.keepIn K (.ref a4) = true)
    {o5 : Option Addr} {an5 : Option Addr} {sl5 : Array (Option Value)} {oc5 kV5 dc5 pm5 cd5 ct5 : Value}
    (x5 : PySem.W.findIn K (.ref C0) "__contains__" = some (some (.ref a5))) (i5 : PySem.W.isFn K (.ref a5) = true)
    (l5 : K.lookup a5 = some ⟨oc5, o5, .func (PySem.W.fnOf "__contains__" "Web.__contains__" (C8.fnArgs s5) (C8.fnBody s5) (C8.fnScope s5) .none kV5 dc5 pm5 an5 cd5 ct5), sl5⟩) (e5 : PySem.W.codeIn K cd5 "Web.__contains__" = true) (u5 : PySem.W.keepIn K (.ref a5) = true)
    {o6 : Option Addr} {an6 : Option Addr} {sl6 : Array (Option Value)} {oc6 kV6 dc6 pm6 cd6 ct6 : Value}
    (x6 : PySem.W.findIn K (.ref C0) "__len__" = some (some (.ref a6))) (i6 : PySem.W.isFn K (.ref a6) = true)
    (l6 : K.lookup a6 = some ⟨oc6, o6, .func (PySem.W.fnOf "__len__" "Web.__len__" (C8.fnArgs s6) (C8.fnBody s6) (C8.fnScope s6) .none kV6 dc6 pm6 an6 cd6 ct6), sl6⟩) (e6 : PySem.W.codeIn K cd6 "Web.__len__" = true) (u6 : PySem.W.keepIn K (.ref a6) = true)
    {o7 : Option Addr} {an7 : Option Addr} {sl7 : Array (Option Value)} {oc7 kV7 dc7 pm7 cd7 ct7 : Value}
    (x7 : PySem.W.findIn K (.ref C0) "__add__" = some (some (.ref a7))) (i7 : PySem.W.isFn K (.ref a7) = true)
    (l7 : K.lookup a7 = some ⟨oc7, o7, .func (PySem.W.fnOf "__add__" "Web.__add__" (C8.fnArgs s7) (C8.fnBody s7) (C8.fnScope s7) .none kV7 dc7 pm7 an7 cd7 ct7), sl7⟩) (e7 : PySem.W.codeIn K cd7 "Web.__add__" = true) (u7 : PySem.W.keepIn K (.ref a7) = true)
    {o8 : Option Addr} {an8 : Option Addr} {sl8 : Array (Option Value)} {oc8 kV8 dc8 pm8 cd8 ct8 : Value}
    (x8 : PySem.W.findIn K (.ref C0) "__eq__" = some (some (.ref a8))) (i8 : PySem.W.isFn K (.ref a8) = true)
    (l8 : K.lookup a8 = some ⟨oc8, o8, .func (PySem.W.fnOf "__eq__" "Web.__eq__" (C8.fnArgs s8) (C8.fnBody s8) (C8.fnScope s8) .none kV8 dc8 pm8 an8 cd8 ct8), sl8⟩) (e8 : PySem.W.codeIn K cd8 "Web.__eq__" = true) (u8 : PySem.W.keepIn K (.ref a8) = true)
    {o9 : Option Addr} {an9 : Option Addr} {sl9 : Array (Option Value)} {oc9 kV9 dc9 pm9 cd9 ct9 : Value}
    (x9 : PySem.W.nsIn K mainGlobals "check_lines" = some (some (.ref a9)))
    (l9 : K.lookup a9 = some ⟨oc9, o9, .func (PySem.W.fnOf "check_lines" "check_lines" (C8.fnArgs s9) (C8.fnBody s9) (C8.fnScope s9) .none kV9 dc9 pm9 an9 cd9 ct9), sl9⟩) (e9 : PySem.W.codeIn K cd9 "check_lines" = true) (u9 : PySem.W.keepIn K (.ref a9) = true)
    {o10 : Option Addr} {an10 : Option Addr} {sl10 : Array (Option Value)} {oc10 kV10 dc10 pm10 cd10 ct10 : Value}
    (x10 : PySem.W.nsIn K mainGlobals "check_places" = some (some (.ref a10)))
    (l10 : K.lookup a10 = some ⟨oc10, o10, .func (PySem.W.fnOf "check_places" "check_places" (C8.fnArgs s10) (C8.fnBody s10) (C8.fnScope s10) .none kV10 dc10 pm10 an10 cd10 ct10), sl10⟩) (e10 : PySem.W.codeIn K cd10 "check_places" = true) (u10 : PySem.W.keepIn K (.ref a10) = true)
    {o11 : Option Addr} {an11 : Option Addr} {sl11 : Array (Option Value)} {oc11 kV11 dc11 pm11 cd11 ct11 : Value}
    (x11 : PySem.W.findIn K (.ref C1) "__init__" = some (some (.ref a11))) (i11 : PySem.W.isFn K (.ref a11) = true)
    (l11 : K.lookup a11 = some ⟨oc11, o11, .func (PySem.W.fnOf "__init__" "Scene.__init__" (C8.fnArgs s11) (C8.fnBody s11) (C8.fnScope s11) .none kV11 dc11 pm11 an11 cd11 ct11), sl11⟩) (e11 : PySem.W.codeIn K cd11 "Scene.__init__" = true) (u11 : PySem.W.keepIn K (.ref a11) = true)
    {o12 : Option Addr} {an12 : Option Addr} {sl12 : Array (Option Value)} {oc12 kV12 dc12 pm12 cd12 ct12 : Value}
    (x12 : PySem.W.findIn K (.ref C1) "__eq__" = some (some (.ref a12))) (i12 : PySem.W.isFn K (.ref a12) = true)
    (l12 : K.lookup a12 = some ⟨oc12, o12, .func (PySem.W.fnOf "__eq__" "Scene.__eq__" (C8.fnArgs s12) (C8.fnBody s12) (C8.fnScope s12) .none kV12 dc12 pm12 an12 cd12 ct12), sl12⟩) (e12 : PySem.W.codeIn K cd12 "Scene.__eq__" = true) (u12 : PySem.W.keepIn K (.ref a12) = true)
    {o13 : Option Addr} {an13 : Option Addr} {sl13 : Array (Option Value)} {oc13 kV13 dc13 pm13 cd13 ct13 : Value}
    (x13 : PySem.W.nsIn K mainGlobals "check_picture" = some (some (.ref a13)))
    (l13 : K.lookup a13 = some ⟨oc13, o13, .func (PySem.W.fnOf "check_picture" "check_picture" (C8.fnArgs s13) (C8.fnBody s13) (C8.fnScope s13) .none kV13 dc13 pm13 an13 cd13 ct13), sl13⟩) (e13 : PySem.W.codeIn K cd13 "check_picture" = true) (u13 : PySem.W.keepIn K (.ref a13) = true)
    {o14 : Option Addr} {an14 : Option Addr} {sl14 : Array (Option Value)} {oc14 kV14 dc14 pm14 cd14 ct14 : Value}
    (x14 : PySem.W.nsIn K mainGlobals "mirror" = some (some (.ref a14)))
    (l14 : K.lookup a14 = some ⟨oc14, o14, .func (PySem.W.fnOf "mirror" "mirror" (C8.fnArgs s14) (C8.fnBody s14) (C8.fnScope s14) .none kV14 dc14 pm14 an14 cd14 ct14), sl14⟩) (e14 : PySem.W.codeIn K cd14 "mirror" = true) (u14 : PySem.W.keepIn K (.ref a14) = true)
    {o15 : Option Addr} {an15 : Option Addr} {sl15 : Array (Option Value)} {oc15 kV15 dc15 pm15 cd15 ct15 : Value}
    (x15 : PySem.W.nsIn K mainGlobals "masks_of_scene" = some (some (.ref a15)))
    (l15 : K.lookup a15 = some ⟨oc15, o15, .func (PySem.W.fnOf "masks_of_scene" "masks_of_scene" (C8.fnArgs s15) (C8.fnBody s15) (C8.fnScope s15) .none kV15 dc15 pm15 an15 cd15 ct15), sl15⟩) (e15 : PySem.W.codeIn K cd15 "masks_of_scene" = true) (u15 : PySem.W.keepIn K (.ref a15) = true)
    {o16 : Option Addr} {an16 : Option Addr} {sl16 : Array (Option Value)} {oc16 kV16 dc16 pm16 cd16 ct16 : Value}
    (x16 : PySem.W.nsIn K mainGlobals "scene_of_masks" = some (some (.ref a16)))
    (l16 : K.lookup a16 = some ⟨oc16, o16, .func (PySem.W.fnOf "scene_of_masks" "scene_of_masks" (C8.fnArgs s16) (C8.fnBody s16) (C8.fnScope s16) .none kV16 dc16 pm16 an16 cd16 ct16), sl16⟩) (e16 : PySem.W.codeIn K cd16 "scene_of_masks" = true) (u16 : PySem.W.keepIn K (.ref a16) = true)
    {o17 : Option Addr} {an17 : Option Addr} {sl17 : Array (Option Value)} {oc17 kV17 dc17 pm17 cd17 ct17 : Value}
    (x17 : PySem.W.nsIn K mainGlobals "poked_mask" = some (some (.ref a17)))
    (l17 : K.lookup a17 = some ⟨oc17, o17, .func (PySem.W.fnOf "poked_mask" "poked_mask" (C8.fnArgs s17) (C8.fnBody s17) (C8.fnScope s17) .none kV17 dc17 pm17 an17 cd17 ct17), sl17⟩) (e17 : PySem.W.codeIn K cd17 "poked_mask" = true) (u17 : PySem.W.keepIn K (.ref a17) = true)
    {o18 : Option Addr} {an18 : Option Addr} {sl18 : Array (Option Value)} {oc18 kV18 dc18 pm18 cd18 ct18 : Value}
    (x18 : PySem.W.nsIn K mainGlobals "next_masks" = some (some (.ref a18)))
    (l18 : K.lookup a18 = some ⟨oc18, o18, .func (PySem.W.fnOf "next_masks" "next_masks" (C8.fnArgs s18) (C8.fnBody s18) (C8.fnScope s18) .none kV18 dc18 pm18 an18 cd18 ct18), sl18⟩) (e18 : PySem.W.codeIn K cd18 "next_masks" = true) (u18 : PySem.W.keepIn K (.ref a18) = true)
    {T19 : Addr}
    {o19 : Option Addr} {an19 : Option Addr} {sl19 : Array (Option Value)} {oc19 kV19 dc19 pm19 cd19 ct19 : Value}
    (x19 : PySem.W.nsIn K mainGlobals "step" = some (some (.ref a19)))
    (l19 : K.lookup a19 = some ⟨oc19, o19, .func (PySem.W.fnOf "step" "step" (C8.fnArgs s19) (C8.fnBody s19) (C8.fnScope s19) (.ref T19) kV19 dc19 pm19 an19 cd19 ct19), sl19⟩) (e19 : PySem.W.codeIn K cd19 "step" = true) (u19 : PySem.W.keepIn K (.ref a19) = true)
    {U19_0 : Addr} {uo19_0 : Option Addr} {un19_0 : Nat} {us19_0 : Array (Option Value)} (w19_0 : K.lookup U19_0 = some ⟨.type "tuple", uo19_0, .seq #[] un19_0, us19_0⟩)
    {tc19 : Value} {to19 : Option Addr} {tn19 : Nat} {ts19 : Array (Option Value)} (v19 : K.lookup T19 = some ⟨tc19, to19, .seq #[.ref U19_0] tn19, ts19⟩)
    {T20 : Addr}
    {o20 : Option Addr} {an20 : Option Addr} {sl20 : Array (Option Value)} {oc20 kV20 dc20 pm20 cd20 ct20 : Value}
    (x20 : PySem.W.nsIn K mainGlobals "back" = some (some (.ref a20)))
    (l20 : K.lookup a20 = some ⟨oc20, o20, .func (PySem.W.fnOf "back" "back" (C8.fnArgs s20) (C8.fnBody s20) (C8.fnScope s20) (.ref T20) kV20 dc20 pm20 an20 cd20 ct20), sl20⟩) (e20 : PySem.W.codeIn K cd20 "back" = true) (u20 : PySem.W.keepIn K (.ref a20) = true)
    {U20_0 : Addr} {uo20_0 : Option Addr} {un20_0 : Nat} {us20_0 : Array (Option Value)} (w20_0 : K.lookup U20_0 = some ⟨.type "tuple", uo20_0, .seq #[] un20_0, us20_0⟩)
    {tc20 : Value} {to20 : Option Addr} {tn20 : Nat} {ts20 : Array (Option Value)} (v20 : K.lookup T20 = some ⟨tc20, to20, .seq #[.ref U20_0] tn20, ts20⟩)
    {o21 : Option Addr} {an21 : Option Addr} {sl21 : Array (Option Value)} {oc21 kV21 dc21 pm21 cd21 ct21 : Value}
    (x21 : PySem.W.nsIn K mainGlobals "_law_whole" = some (some (.ref a21)))
    (l21 : K.lookup a21 = some ⟨oc21, o21, .func (PySem.W.fnOf "_law_whole" "_law_whole" (C8.fnArgs s21) (C8.fnBody s21) (C8.fnScope s21) .none kV21 dc21 pm21 an21 cd21 ct21), sl21⟩) (e21 : PySem.W.codeIn K cd21 "_law_whole" = true) (u21 : PySem.W.keepIn K (.ref a21) = true)
    {o22 : Option Addr} {an22 : Option Addr} {sl22 : Array (Option Value)} {oc22 kV22 dc22 pm22 cd22 ct22 : Value}
    (x22 : PySem.W.nsIn K mainGlobals "_law_cell" = some (some (.ref a22)))
    (l22 : K.lookup a22 = some ⟨oc22, o22, .func (PySem.W.fnOf "_law_cell" "_law_cell" (C8.fnArgs s22) (C8.fnBody s22) (C8.fnScope s22) .none kV22 dc22 pm22 an22 cd22 ct22), sl22⟩) (e22 : PySem.W.codeIn K cd22 "_law_cell" = true) (u22 : PySem.W.keepIn K (.ref a22) = true)
    {o23 : Option Addr} {an23 : Option Addr} {sl23 : Array (Option Value)} {oc23 kV23 dc23 pm23 cd23 ct23 : Value}
    (x23 : PySem.W.nsIn K mainGlobals "_law_digits" = some (some (.ref a23)))
    (l23 : K.lookup a23 = some ⟨oc23, o23, .func (PySem.W.fnOf "_law_digits" "_law_digits" (C8.fnArgs s23) (C8.fnBody s23) (C8.fnScope s23) .none kV23 dc23 pm23 an23 cd23 ct23), sl23⟩) (e23 : PySem.W.codeIn K cd23 "_law_digits" = true) (u23 : PySem.W.keepIn K (.ref a23) = true)
    {o24 : Option Addr} {an24 : Option Addr} {sl24 : Array (Option Value)} {oc24 kV24 dc24 pm24 cd24 ct24 : Value}
    (x24 : PySem.W.nsIn K mainGlobals "_law_web" = some (some (.ref a24)))
    (l24 : K.lookup a24 = some ⟨oc24, o24, .func (PySem.W.fnOf "_law_web" "_law_web" (C8.fnArgs s24) (C8.fnBody s24) (C8.fnScope s24) .none kV24 dc24 pm24 an24 cd24 ct24), sl24⟩) (e24 : PySem.W.codeIn K cd24 "_law_web" = true) (u24 : PySem.W.keepIn K (.ref a24) = true)
    {o25 : Option Addr} {an25 : Option Addr} {sl25 : Array (Option Value)} {oc25 kV25 dc25 pm25 cd25 ct25 : Value}
    (x25 : PySem.W.nsIn K mainGlobals "_law_picture" = some (some (.ref a25)))
    (l25 : K.lookup a25 = some ⟨oc25, o25, .func (PySem.W.fnOf "_law_picture" "_law_picture" (C8.fnArgs s25) (C8.fnBody s25) (C8.fnScope s25) .none kV25 dc25 pm25 an25 cd25 ct25), sl25⟩) (e25 : PySem.W.codeIn K cd25 "_law_picture" = true) (u25 : PySem.W.keepIn K (.ref a25) = true)
    {o26 : Option Addr} {an26 : Option Addr} {sl26 : Array (Option Value)} {oc26 kV26 dc26 pm26 cd26 ct26 : Value}
    (x26 : PySem.W.nsIn K mainGlobals "_law_scene" = some (some (.ref a26)))
    (l26 : K.lookup a26 = some ⟨oc26, o26, .func (PySem.W.fnOf "_law_scene" "_law_scene" (C8.fnArgs s26) (C8.fnBody s26) (C8.fnScope s26) .none kV26 dc26 pm26 an26 cd26 ct26), sl26⟩) (e26 : PySem.W.codeIn K cd26 "_law_scene" = true) (u26 : PySem.W.keepIn K (.ref a26) = true)
    {o27 : Option Addr} {an27 : Option Addr} {sl27 : Array (Option Value)} {oc27 kV27 dc27 pm27 cd27 ct27 : Value}
    (x27 : PySem.W.nsIn K mainGlobals "_law_near" = some (some (.ref a27)))
    (l27 : K.lookup a27 = some ⟨oc27, o27, .func (PySem.W.fnOf "_law_near" "_law_near" (C8.fnArgs s27) (C8.fnBody s27) (C8.fnScope s27) .none kV27 dc27 pm27 an27 cd27 ct27), sl27⟩) (e27 : PySem.W.codeIn K cd27 "_law_near" = true) (u27 : PySem.W.keepIn K (.ref a27) = true)
    {o28 : Option Addr} {an28 : Option Addr} {sl28 : Array (Option Value)} {oc28 kV28 dc28 pm28 cd28 ct28 : Value}
    (x28 : PySem.W.nsIn K mainGlobals "_law_step" = some (some (.ref a28)))
    (l28 : K.lookup a28 = some ⟨oc28, o28, .func (PySem.W.fnOf "_law_step" "_law_step" (C8.fnArgs s28) (C8.fnBody s28) (C8.fnScope s28) .none kV28 dc28 pm28 an28 cd28 ct28), sl28⟩) (e28 : PySem.W.codeIn K cd28 "_law_step" = true) (u28 : PySem.W.keepIn K (.ref a28) = true)
    {o29 : Option Addr} {an29 : Option Addr} {sl29 : Array (Option Value)} {oc29 kV29 dc29 pm29 cd29 ct29 : Value}
    (x29 : PySem.W.nsIn K mainGlobals "_law_row" = some (some (.ref a29)))
    (l29 : K.lookup a29 = some ⟨oc29, o29, .func (PySem.W.fnOf "_law_row" "_law_row" (C8.fnArgs s29) (C8.fnBody s29) (C8.fnScope s29) .none kV29 dc29 pm29 an29 cd29 ct29), sl29⟩) (e29 : PySem.W.codeIn K cd29 "_law_row" = true) (u29 : PySem.W.keepIn K (.ref a29) = true)
    {o30 : Option Addr} {an30 : Option Addr} {sl30 : Array (Option Value)} {oc30 kV30 dc30 pm30 cd30 ct30 : Value}
    (x30 : PySem.W.nsIn K mainGlobals "_law_is_scene" = some (some (.ref a30)))
    (l30 : K.lookup a30 = some ⟨oc30, o30, .func (PySem.W.fnOf "_law_is_scene" "_law_is_scene" (C8.fnArgs s30) (C8.fnBody s30) (C8.fnScope s30) .none kV30 dc30 pm30 an30 cd30 ct30), sl30⟩) (e30 : PySem.W.codeIn K cd30 "_law_is_scene" = true) (u30 : PySem.W.keepIn K (.ref a30) = true)
    {o31 : Option Addr} {an31 : Option Addr} {sl31 : Array (Option Value)} {oc31 kV31 dc31 pm31 cd31 ct31 : Value}
    (x31 : PySem.W.nsIn K mainGlobals "_law_back" = some (some (.ref a31)))
    (l31 : K.lookup a31 = some ⟨oc31, o31, .func (PySem.W.fnOf "_law_back" "_law_back" (C8.fnArgs s31) (C8.fnBody s31) (C8.fnScope s31) .none kV31 dc31 pm31 an31 cd31 ct31), sl31⟩) (e31 : PySem.W.codeIn K cd31 "_law_back" = true) (u31 : PySem.W.keepIn K (.ref a31) = true)
    {o32 : Option Addr} {an32 : Option Addr} {sl32 : Array (Option Value)} {oc32 kV32 dc32 pm32 cd32 ct32 : Value}
    (x32 : PySem.W.nsIn K mainGlobals "_law_mirror" = some (some (.ref a32)))
    (l32 : K.lookup a32 = some ⟨oc32, o32, .func (PySem.W.fnOf "_law_mirror" "_law_mirror" (C8.fnArgs s32) (C8.fnBody s32) (C8.fnScope s32) .none kV32 dc32 pm32 an32 cd32 ct32), sl32⟩) (e32 : PySem.W.codeIn K cd32 "_law_mirror" = true) (u32 : PySem.W.keepIn K (.ref a32) = true)
    {o33 : Option Addr} {an33 : Option Addr} {sl33 : Array (Option Value)} {oc33 kV33 dc33 pm33 cd33 ct33 : Value}
    (x33 : PySem.W.nsIn K mainGlobals "_law_thread" = some (some (.ref a33)))
    (l33 : K.lookup a33 = some ⟨oc33, o33, .func (PySem.W.fnOf "_law_thread" "_law_thread" (C8.fnArgs s33) (C8.fnBody s33) (C8.fnScope s33) .none kV33 dc33 pm33 an33 cd33 ct33), sl33⟩) (e33 : PySem.W.codeIn K cd33 "_law_thread" = true) (u33 : PySem.W.keepIn K (.ref a33) = true)
    {o34 : Option Addr} {an34 : Option Addr} {sl34 : Array (Option Value)} {oc34 kV34 dc34 pm34 cd34 ct34 : Value}
    (x34 : PySem.W.nsIn K mainGlobals "_law_asked" = some (some (.ref a34)))
    (l34 : K.lookup a34 = some ⟨oc34, o34, .func (PySem.W.fnOf "_law_asked" "_law_asked" (C8.fnArgs s34) (C8.fnBody s34) (C8.fnScope s34) .none kV34 dc34 pm34 an34 cd34 ct34), sl34⟩) (e34 : PySem.W.codeIn K cd34 "_law_asked" = true) (u34 : PySem.W.keepIn K (.ref a34) = true)
    {o35 : Option Addr} {an35 : Option Addr} {sl35 : Array (Option Value)} {oc35 kV35 dc35 pm35 cd35 ct35 : Value}
    (x35 : PySem.W.nsIn K mainGlobals "law" = some (some (.ref a35)))
    (l35 : K.lookup a35 = some ⟨oc35, o35, .func (PySem.W.fnOf "law" "law" (C8.fnArgs s35) (C8.fnBody s35) (C8.fnScope s35) .none kV35 dc35 pm35 an35 cd35 ct35), sl35⟩) (e35 : PySem.W.codeIn K cd35 "law" = true) (u35 : PySem.W.keepIn K (.ref a35) = true)
    (ghn : PySem.W.specialIn K (.builtin "object.__class__") "__get__" = some (some (.builtin "getset_descriptor.__get__"))) (gtk : PySem.W.takesIn K (.builtin "object.__class__") = some true)
    (z_bool : PySem.W.nsIn K mainGlobals "bool" = some none)
    (z_enumerate : PySem.W.nsIn K mainGlobals "enumerate" = some none)
    (z_int : PySem.W.nsIn K mainGlobals "int" = some none)
    (z_isinstance : PySem.W.nsIn K mainGlobals "isinstance" = some none)
    (z_len : PySem.W.nsIn K mainGlobals "len" = some none)
    (z_list : PySem.W.nsIn K mainGlobals "list" = some none)
    (z_max : PySem.W.nsIn K mainGlobals "max" = some none)
    (z_min : PySem.W.nsIn K mainGlobals "min" = some none)
    (z_range : PySem.W.nsIn K mainGlobals "range" = some none)
    (z_set : PySem.W.nsIn K mainGlobals "set" = some none)
    (z_sorted : PySem.W.nsIn K mainGlobals "sorted" = some none)
    (z_tuple : PySem.W.nsIn K mainGlobals "tuple" = some none) :
    ∃ fd : FuncData, (∀ (s : Shared) (v : Value), BindsTo s fd ⟨[v], []⟩ [("script", v)]) ∧ ∀ base : Heap, K.In base → base.Ns mainGlobals mg → FnOk P w K mg base C8.CX0 (2 * d + 2) fa fd ["script"] (spLaw K) := by
  have FF := all_mk X G cx0 pg0 hd0 po0 sa0 mk0 kc0 sf0 ha0 hm0 me0 n0_0 n0_1 n0_2 n0_3 n0_4 n0_5 cx1 pg1 hd1 po1 sa1 mk1 kc1 sf1 ha1 hm1 me1 n1_0 n1_1 n1_2 n1_3 n1_4 n1_5 xg_MIRRORED lg_MIRRORED x0 l0 e0 u0 x1 l1 e1 u1 x2 l2 e2 u2 x3 i3 l3 e3 u3 w3_0 v3 x4 i4 l4 e4 u4 x5 i5 l5 e5 u5 x6 i6 l6 e6 u6 x7 i7 l7 e7 u7 x8 i8 l8 e8 u8 x9 l9 e9 u9 x10 l10 e10 u10 x11 i11 l11 e11 u11 x12 i12 l12 e12 u12 x13 l13 e13 u13 x14 l14 e14 u14 x15 l15 e15 u15 x16 l16 e16 u16 x17 l17 e17 u17 x18 l18 e18 u18 x19 l19 e19 u19 w19_0 v19 x20 l20 e20 u20 w20_0 v20 x21 l21 e21 u21 x22 l22 e22 u22 x23 l23 e23 u23 x24 l24 e24 u24 x25 l25 e25 u25 x26 l26 e26 u26 x27 l27 e27 u27 x28 l28 e28 u28 x29 l29 e29 u29 x30 l30 e30 u30 x31 l31 e31 u31 x32 l32 e32 u32 x33 l33 e33 u33 x34 l34 e34 u34 x35 l35 e35 u35 ghn gtk z_bool z_enumerate z_int z_isinstance z_len z_list z_max z_min z_range z_set z_sorted z_tuple
  have e := hfa.symm.trans FF.at35.mgf
  cases e
  exact ⟨_, fun s v => .of_eq rfl, fun base _ _ => law_ok FF wf d main⟩
end P36

/-! Y0: typed programs: what a def does, as a function over Lean's own data; ok: it ends with this value, ex: it raises, no: not said. -/
namespace Y
open PySem

structure Exn where
  c : Nat
  fs : List Int
  deriving DecidableEq
inductive P (α : Type) where
  | ok (a : α) | ex (e : Exn) | no
namespace P
variable {α β γ : Type}
def bind : P α → (α → P β) → P β
  | .ok a, f => f a
  | .ex e, _ => .ex e
  | .no, _ => .no
@[simp] theorem ok_bind (a : α) (f : α → P β) : (P.ok a).bind f = f a := rfl
@[simp] theorem ex_bind (e : Exn) (f : α → P β) : (P.ex e).bind f = .ex e := rfl
@[simp] theorem no_bind (f : α → P β) : (P.no : P α).bind f = .no := rfl
theorem bind_ok {m : P α} {f : α → P β} {b : β} (h : m.bind f = .ok b) : ∃ a, m = .ok a ∧ f a = .ok b := by
  cases m with
  | ok a => exact ⟨a, rfl, h⟩
  | ex e => cases h
  | no => cases h
theorem bind_assoc (m : P α) (f : α → P β) (g : β → P γ) : (m.bind f).bind g = m.bind fun a => (f a).bind g := by cases m <;> rfl
theorem bind_of {m : P α} {f : α → P β} {a : α} {r : P β} (h : m = .ok a) (k : f a = r) : m.bind f = r := by subst h; exact k
@[simp] theorem ok_inj {a b : α} : (P.ok a = P.ok b) = (a = b) := by simp
/-- it ends with a value of this kind -/
def To (m : P α) (q : α → Prop) : Prop := ∃ a, m = .ok a ∧ q a
theorem To.ok {a : α} {q : α → Prop} (h : q a) : To (.ok a) q := ⟨a, rfl, h⟩
theorem To.bind {m : P α} {f : α → P β} {p : α → Prop} {q : β → Prop} (h : To m p) (k : ∀ a, m = .ok a → p a → To (f a) q) : To (m.bind f) q := by
  obtain ⟨a, e, ha⟩ := h
  obtain ⟨b, e2, hb⟩ := k a e ha
  exact ⟨b, by rw [e]; exact e2, hb⟩
theorem To.mono {m : P α} {p q : α → Prop} (h : To m p) (k : ∀ a, p a → q a) : To m q := h.imp fun a x => ⟨x.1, k a x.2⟩
theorem To.eq {m : P α} {a : α} (h : m = .ok a) : To m (· = a) := ⟨a, h, rfl⟩
theorem To.bindE {m : P α} {f : α → P β} {a : α} {q : β → Prop} (h : m = .ok a) (k : To (f a) q) : To (m.bind f) q := by subst h; exact k
end P
/-- a value by a name -/
def bnd {α β : Type} (a : α) (f : α → P β) : P β := f a

section
variable {α β σ : Type}
def sIx (n d : Nat) : Option Int → Nat
  | none => d
  | some v => if v < 0 then (v + (n : Int)).toNat else min v.toNat n
def slc (xs : List α) (lo hi : Option Int) : List α := (xs.drop (sIx xs.length 0 lo)).take (sIx xs.length xs.length hi - sIx xs.length 0 lo)
def ixI (n : Nat) (i : Int) : Option Nat := if 0 ≤ i then (if i < n then some i.toNat else none) else if -(n : Int) ≤ i then some (i + n).toNat else none
def opt (o : Option α) : P α := match o with | some x => .ok x | none => .no
def getI (xs : List α) (i : Int) : P α := opt ((ixI xs.length i).bind fun j => xs[j]?)
def setI (xs : List α) (i : Int) (x : α) : P (List α) := if 0 ≤ i ∧ i < xs.length then .ok (xs.set i.toNat x) else .no
def push (xs : List α) (x : α) : P (List α) := if xs.length < 100000 then .ok (xs ++ [x]) else .no
def pushAt (xs : List (List α)) (i : Int) (x : α) : P (List (List α)) := match xs[i.toNat]? with
  | some ys => if 0 ≤ i ∧ ys.length < 100000 then .ok (xs.set i.toNat (ys ++ [x])) else .no
  | none => .no
def cat (xs ys : List α) : P (List α) := if xs.length + ys.length ≤ 100000 then .ok (xs ++ ys) else .no
def rep (xs : List α) (n : Int) : P (List α) := if 0 ≤ n ∧ n ≤ 100000 ∧ xs.length * n.toNat ≤ 100000 then .ok ((List.replicate n.toNat xs).flatten) else .no
def small (i : Int) : Bool := decide (-(2 ^ 64) < i) && decide (i < 2 ^ 64)
def mulI (i j : Int) : P Int := if (small i || small j) || decide (i.natAbs.log2 + j.natAbs.log2 < 1000000) then .ok (i * j) else .no
def divI (i j : Int) : P Int := if decide (0 < j) && (decide (j < 1073741824) || decide (j.natAbs.log2 < 9000)) then .ok (i / j) else .no
def modI (i j : Int) : P Int := if 0 < j then .ok (i % j) else .no
def shiftOk (i j : Int) : Bool := decide (0 ≤ j) && decide (j ≤ 1000000) && decide (i.natAbs < 2 ^ 64)
def powI (i j : Int) : P Int := if shiftOk i j then .ok (i ^ j.toNat) else .no
def shlI (i j : Int) : P Int := if shiftOk i j then .ok (i * 2 ^ j.toNat) else .no
def shrI (i j : Int) : P Int := if 0 ≤ j then .ok (i / 2 ^ j.toNat) else .no
def band (i j : Int) : Int := Builtin.bitAnd i j
def bor (i j : Int) : Int := Builtin.bitOr i j
def bxor (i j : Int) : Int := Builtin.bitXor i j
def bnot (i : Int) : Int := Builtin.bitNot i
def blen (i : Int) : Int := (Builtin.Int.intBits i : Nat)
def iabs (i : Int) : Int := if i < 0 then -i else i
def max2 (i j : Int) : Int := if j > i then j else i
def min2 (i j : Int) : Int := if j < i then j else i
def b2i (b : Bool) : Int := if b then 1 else 0
def rngOk (a b : Int) : Bool := decide (-(2 ^ 62) ≤ a) && decide (a < 2 ^ 62) && decide (-(2 ^ 62) ≤ b) && decide (b < 2 ^ 62)
def rangeI (lo : Int) (n : Nat) : List Int := (List.range n).map fun k : Nat => lo + (k : Int)
def rng (i j : Int) : P (List Int) := if rngOk i j then .ok (rangeI i (j - i).toNat) else .no
def rng0 (j : Int) : P (List Int) := if rngOk 0 j then .ok ((List.range j.toNat).map fun k : Nat => (k : Int)) else .no
def rngDown (i j : Int) : P (List Int) := if rngOk i j then .ok (rangeI (j + 1) (i - j).toNat).reverse else .no
def enumI : Int → List α → List (Int × α)
  | _, [] => []
  | i, x :: r => (i, x) :: enumI (i + 1) r
def insI (i : Int) : List Int → List Int
  | [] => [i]
  | j :: r => if i ≤ j then i :: j :: r else j :: insI i r
def srtI : List Int → List Int
  | [] => []
  | i :: r => insI i (srtI r)
def plt (p q : Int × Int) : Bool := decide (p.1 < q.1) || (decide (p.1 = q.1) && decide (p.2 < q.2))
def insP (p : Int × Int) : List (Int × Int) → List (Int × Int)
  | [] => [p]
  | q :: r => if plt p q then p :: q :: r else if p = q then q :: r else q :: insP p r
def srtP : List (Int × Int) → List (Int × Int)
  | [] => []
  | p :: r => insP p (srtP r)
/-- sorted(set(pairs)) -/
def setSort (ps : List (Int × Int)) : P (List (Int × Int)) := if decide (ps.length < 64) && ps.all (fun p => decide (0 ≤ p.1) && decide (0 ≤ p.2)) then .ok (srtP ps) else .no
def maxI : List Int → Option Int
  | [] => none
  | [i] => some i
  | i :: r => (maxI r).map fun j => if j ≤ i then i else j
def minI : List Int → Option Int
  | [] => none
  | [i] => some i
  | i :: r => (minI r).map fun j => if i ≤ j then i else j

/-! comprehensions -/
def lcM (g : α → β) (xs : List α) : P (List β) := if xs.length ≤ 40000 then .ok (xs.map g) else .no
def lcF (c : α → Bool) (g : α → β) (xs : List α) : P (List β) := if xs.length ≤ 40000 then .ok ((xs.filter c).map g) else .no
def compP (f : α → P (Option β)) : List α → P (List β)
  | [] => .ok []
  | x :: r => (f x).bind fun o => (compP f r).bind fun ys => .ok (match o with | some y => y :: ys | none => ys)
def lcP (f : α → P (Option β)) (xs : List α) : P (List β) := if xs.length ≤ 40000 then compP f xs else .no

/-! loops -/
inductive Ctl (σ β : Type) where
  | nx (s : σ) | bk (s : σ) | rt (b : β)
def foldP (f : σ → α → P σ) : List α → σ → P σ
  | [], s => .ok s
  | x :: r, s => (f s x).bind fun s' => foldP f r s'
def forC (f : σ → α → P (Ctl σ β)) : List α → σ → P (Sum σ β)
  | [], s => .ok (.inl s)
  | x :: r, s => (f s x).bind fun
    | .nx s' => forC f r s'
    | .bk s' => .ok (.inl s')
    | .rt b => .ok (.inr b)
def whileP (c : σ → P Bool) (b : σ → P σ) : Nat → σ → P σ
  | 0, _ => .no
  | n + 1, s => (c s).bind fun t => if t then (b s).bind fun s' => whileP c b n s' else .ok s
def whileC (c : σ → P Bool) (f : σ → P (Ctl σ β)) : Nat → σ → P (Sum σ β)
  | 0, _ => .no
  | n + 1, s => (c s).bind fun t => if t then (f s).bind fun
      | .nx s' => whileC c f n s'
      | .bk s' => .ok (.inl s')
      | .rt b => .ok (.inr b)
    else .ok (.inl s)
/-- behind a loop or a branch that may return -/
def thenK {γ : Type} (m : P (Sum σ β)) (k : σ → P γ) (r : β → P γ) : P γ := m.bind fun
  | .inl s => k s
  | .inr b => r b
end
end Y

/-! Y1: how typed values lie in trees; what the slots of a frame hold. -/
namespace Y
open PySem Z

abbrev Rl (α : Type) := D → α → Prop
abbrev Pd := D → Prop
def rI : Rl Int := fun d i => d = .int i
def rB : Rl Bool := fun d b => d = .bl b
def rU : Rl Unit := fun d _ => d = .non
def rS : Rl Str := fun d s => d = .str s
section
variable {α β γ δ ε : Type}
def All2 (r : Rl α) : List D → List α → Prop
  | [], xs => xs = []
  | d :: ds, xs => ∃ v vs, xs = v :: vs ∧ r d v ∧ All2 r ds vs
def rO (r : Rl α) : Rl (Option α) := fun d o => match o with
  | none => d = .non
  | some v => r d v ∧ d.isN = false
/-- shapes of sequences -/
inductive SK where
  | W | F | A | T | Q | R
def SK.is : SK → D → Prop
  | .W, .lst .own _ => True
  | .F, .lst .fz _ => True
  | .A, .lst .own _ => True
  | .A, .lst .fz _ => True
  | .T, .tup _ => True
  | .Q, .lst .fz _ => True
  | .Q, .tup _ => True
  | .R, .lst .ro _ => True
  | _, _ => False
def rs (k : SK) (r : Rl α) : Rl (List α) := fun d xs => k.is d ∧ ∃ ds, seqD d = some ds ∧ All2 r ds xs
def rP2 (r1 : Rl α) (r2 : Rl β) : Rl (α × β) := fun d v => ∃ d1 d2, d = .tup [d1, d2] ∧ r1 d1 v.1 ∧ r2 d2 v.2
def rP3 (r1 : Rl α) (r2 : Rl β) (r3 : Rl γ) : Rl (α × β × γ) := fun d v => ∃ d1 d2 d3, d = .tup [d1, d2, d3] ∧ r1 d1 v.1 ∧ r2 d2 v.2.1 ∧ r3 d3 v.2.2
def rP4 (r1 : Rl α) (r2 : Rl β) (r3 : Rl γ) (r4 : Rl δ) : Rl (α × β × γ × δ) := fun d v => ∃ d1 d2 d3 d4, d = .tup [d1, d2, d3, d4] ∧ r1 d1 v.1 ∧ r2 d2 v.2.1 ∧ r3 d3 v.2.2.1 ∧ r4 d4 v.2.2.2
/-- lists with a fixed number of unlike items -/
def rH2 (k : SK) (r1 : Rl α) (r2 : Rl β) : Rl (α × β) := fun d v => k.is d ∧ ∃ d1 d2, seqD d = some [d1, d2] ∧ r1 d1 v.1 ∧ r2 d2 v.2
def rH3 (k : SK) (r1 : Rl α) (r2 : Rl β) (r3 : Rl γ) : Rl (α × β × γ) := fun d v => k.is d ∧ ∃ d1 d2 d3, seqD d = some [d1, d2, d3] ∧ r1 d1 v.1 ∧ r2 d2 v.2.1 ∧ r3 d3 v.2.2
def rH4 (k : SK) (r1 : Rl α) (r2 : Rl β) (r3 : Rl γ) (r4 : Rl δ) : Rl (α × β × γ × δ) := fun d v => k.is d ∧ ∃ d1 d2 d3 d4, seqD d = some [d1, d2, d3, d4] ∧ r1 d1 v.1 ∧ r2 d2 v.2.1 ∧ r3 d3 v.2.2.1 ∧ r4 d4 v.2.2.2

theorem All2.len {r : Rl α} : ∀ {ds : List D} {xs : List α}, All2 r ds xs → ds.length = xs.length
  | [], xs, h => by cases (h : xs = []); rfl
  | d :: ds, xs, h => by obtain ⟨v, vs, rfl, _, h2⟩ := h; rw [List.length_cons, List.length_cons, h2.len]
theorem All2.mono {r r' : Rl α} (k : ∀ d v, r d v → r' d v) : ∀ {ds : List D} {xs : List α}, All2 r ds xs → All2 r' ds xs
  | [], xs, h => h
  | d :: ds, xs, h => by obtain ⟨v, vs, rfl, h1, h2⟩ := h; exact ⟨v, vs, rfl, k _ _ h1, h2.mono k⟩
theorem All2.frz {r r' : Rl α} (k : ∀ d v, r d v → r' (Z.frz d) v) : ∀ {ds : List D} {xs : List α}, All2 r ds xs → All2 r' (frzS ds) xs
  | [], xs, h => h
  | d :: ds, xs, h => by obtain ⟨v, vs, rfl, h1, h2⟩ := h; exact ⟨v, vs, rfl, k _ _ h1, h2.frz k⟩
theorem All2.get {r : Rl α} : ∀ {ds : List D} {xs : List α} {i : Nat} {v : α}, All2 r ds xs → xs[i]? = some v → ∃ d, ds[i]? = some d ∧ r d v
  | [], xs, i, v, h, e => by cases (h : xs = []); simp at e
  | d :: ds, xs, i, v, h, e => by
    obtain ⟨u, vs, rfl, h1, h2⟩ := h
    cases i with
    | zero => simp at e; subst e; exact ⟨d, rfl, h1⟩
    | succ i => simp at e; obtain ⟨d', a, b⟩ := h2.get e; exact ⟨d', by simpa using a, b⟩
theorem All2.getD {r : Rl α} : ∀ {ds : List D} {xs : List α} {i : Nat} {d : D}, All2 r ds xs → ds[i]? = some d → ∃ v, xs[i]? = some v ∧ r d v
  | [], xs, i, d, h, e => by simp at e
  | d0 :: ds, xs, i, d, h, e => by
    obtain ⟨u, vs, rfl, h1, h2⟩ := h
    cases i with
    | zero => simp at e; subst e; exact ⟨u, rfl, h1⟩
    | succ i => simp at e; obtain ⟨v', a, b⟩ := h2.getD e; exact ⟨v', by simpa using a, b⟩
theorem All2.set {r : Rl α} {d : D} {v : α} (hv : r d v) : ∀ {ds : List D} {xs : List α} {i : Nat}, All2 r ds xs → All2 r (ds.set i d) (xs.set i v)
  | [], xs, i, h => by cases (h : xs = []); exact rfl
  | d0 :: ds, xs, i, h => by
    obtain ⟨u, vs, rfl, h1, h2⟩ := h
    cases i with
    | zero => exact ⟨v, vs, rfl, hv, h2⟩
    | succ i => exact ⟨u, vs.set i v, rfl, h1, h2.set hv⟩
theorem All2.append {r : Rl α} : ∀ {ds es : List D} {xs ys : List α}, All2 r ds xs → All2 r es ys → All2 r (ds ++ es) (xs ++ ys)
  | [], es, xs, ys, h, k => by cases (h : xs = []); exact k
  | d :: ds, es, xs, ys, h, k => by obtain ⟨v, vs, rfl, h1, h2⟩ := h; exact ⟨v, vs ++ ys, rfl, h1, h2.append k⟩
theorem All2.drop {r : Rl α} : ∀ {n : Nat} {ds : List D} {xs : List α}, All2 r ds xs → All2 r (ds.drop n) (xs.drop n)
  | 0, _, _, h => by simpa using h
  | n + 1, [], xs, h => by cases (h : xs = []); exact rfl
  | n + 1, d :: ds, xs, h => by obtain ⟨v, vs, rfl, _, h2⟩ := h; simpa using h2.drop
theorem All2.take {r : Rl α} : ∀ {n : Nat} {ds : List D} {xs : List α}, All2 r ds xs → All2 r (ds.take n) (xs.take n)
  | 0, _, _, h => rfl
  | n + 1, [], xs, h => by cases (h : xs = []); exact rfl
  | n + 1, d :: ds, xs, h => by obtain ⟨v, vs, rfl, h1, h2⟩ := h; exact ⟨v, vs.take n, rfl, h1, h2.take⟩
theorem All2.fz {r : Rl α} (k : ∀ d v, r d v → d.fz = true) : ∀ {ds : List D} {xs : List α}, All2 r ds xs → fzs ds = true
  | [], _, _ => rfl
  | d :: ds, xs, h => by
    obtain ⟨v, vs, rfl, h1, h2⟩ := h
    show (d.fz && fzs ds) = true
    rw [k _ _ h1, h2.fz k]; rfl
theorem All2.reverse {r : Rl α} : ∀ {ds : List D} {xs : List α}, All2 r ds xs → All2 r ds.reverse xs.reverse
  | [], xs, h => by cases (h : xs = []); exact rfl
  | d :: ds, xs, h => by
    obtain ⟨v, vs, rfl, h1, h2⟩ := h
    rw [List.reverse_cons, List.reverse_cons]
    exact h2.reverse.append ⟨v, [], rfl, h1, rfl⟩
theorem All2.rep {r : Rl α} {ds : List D} {xs : List α} (h : All2 r ds xs) : ∀ n : Nat, All2 r ((List.replicate n ds).flatten) ((List.replicate n xs).flatten)
  | 0 => rfl
  | n + 1 => by
    rw [List.replicate_succ, List.replicate_succ, List.flatten_cons, List.flatten_cons]
    exact h.append (h.rep n)

/-! freezing -/
abbrev Fr (r r' : Rl α) : Prop := ∀ d v, r d v → r' (frz d) v
abbrev Sb (r r' : Rl α) : Prop := ∀ d v, r d v → r' d v
abbrev Zf (r : Rl α) : Prop := ∀ d v, r d v → d.fz = true
theorem fr_I : Fr rI rI := fun d v h => by cases (h : d = _); rfl
theorem fr_B : Fr rB rB := fun d v h => by cases (h : d = _); rfl
theorem fr_U : Fr rU rU := fun d v h => by cases (h : d = _); rfl
theorem fr_S : Fr rS rS := fun d v h => by cases (h : d = _); rfl
theorem zf_I : Zf rI := fun d v h => by cases (h : d = _); rfl
theorem zf_B : Zf rB := fun d v h => by cases (h : d = _); rfl
theorem zf_U : Zf rU := fun d v h => by cases (h : d = _); rfl
theorem zf_S : Zf rS := fun d v h => by cases (h : d = _); rfl
theorem frz_isN (d : D) : (frz d).isN = d.isN := by
  cases d with
  | lst m ds => cases m <;> rfl
  | _ => rfl
theorem fr_O {r r' : Rl α} (k : Fr r r') : Fr (rO r) (rO r') := fun d o h => by
  cases o with
  | none => cases (h : d = _); rfl
  | some v => exact ⟨k _ _ h.1, by rw [frz_isN]; exact h.2⟩
theorem zf_O {r : Rl α} (k : Zf r) : Zf (rO r) := fun d o h => by
  cases o with
  | none => cases (h : d = _); rfl
  | some v => exact k _ _ h.1
theorem fr_W {r r' : Rl α} (k : Fr r r') : Fr (rs .W r) (rs .F r') := fun d xs h => by
  obtain ⟨h1, ds, h2, h3⟩ := h
  cases d with
  | lst m es => cases m with
    | own => cases h2; exact ⟨trivial, _, rfl, h3.frz k⟩
    | _ => cases h1
  | _ => cases h1
theorem fr_F {r r' : Rl α} (k : Fr r r') : Fr (rs .F r) (rs .F r') := fun d xs h => by
  obtain ⟨h1, ds, h2, h3⟩ := h
  cases d with
  | lst m es => cases m with
    | fz => cases h2; exact ⟨trivial, _, rfl, h3.frz k⟩
    | _ => cases h1
  | _ => cases h1
theorem fr_A {r r' : Rl α} (k : Fr r r') : Fr (rs .A r) (rs .F r') := fun d xs h => by
  obtain ⟨h1, ds, h2, h3⟩ := h
  cases d with
  | lst m es => cases m with
    | own => cases h2; exact ⟨trivial, _, rfl, h3.frz k⟩
    | fz => cases h2; exact ⟨trivial, _, rfl, h3.frz k⟩
    | _ => cases h1
  | _ => cases h1
theorem fr_R {r r' : Rl α} (k : Fr r r') : Fr (rs .R r) (rs .R r') := fun d xs h => by
  obtain ⟨h1, ds, h2, h3⟩ := h
  cases d with
  | lst m es => cases m with
    | ro => cases h2; exact ⟨trivial, _, rfl, h3.frz k⟩
    | _ => cases h1
  | _ => cases h1
theorem fr_T {r : Rl α} : Fr (rs .T r) (rs .T r) := fun d xs h => by
  obtain ⟨h1, ds, h2, h3⟩ := h
  cases d with
  | tup es => exact ⟨h1, ds, h2, h3⟩
  | lst m es => cases m <;> cases h1
  | _ => cases h1
theorem fr_Q {r : Rl α} (k : Fr r r) : Fr (rs .Q r) (rs .Q r) := fun d xs h => by
  obtain ⟨h1, ds, h2, h3⟩ := h
  cases d with
  | tup es => exact ⟨h1, ds, h2, h3⟩
  | lst m es => cases m with
    | fz => cases h2; exact ⟨trivial, _, rfl, h3.frz k⟩
    | _ => cases h1
  | _ => cases h1
theorem zf_F {r : Rl α} : Zf (rs .F r) := fun d xs h => by
  obtain ⟨h1, ds, h2, h3⟩ := h
  cases d with
  | lst m es => cases m with
    | fz => rfl
    | _ => cases h1
  | _ => cases h1
theorem zf_R {r : Rl α} : Zf (rs .R r) := fun d xs h => by
  obtain ⟨h1, ds, h2, h3⟩ := h
  cases d with
  | lst m es => cases m with
    | ro => rfl
    | _ => cases h1
  | _ => cases h1
theorem zf_T {r : Rl α} : Zf (rs .T r) := fun d xs h => by
  obtain ⟨h1, ds, h2, h3⟩ := h
  cases d with
  | tup es => rfl
  | lst m es => cases m <;> cases h1
  | _ => cases h1
theorem zf_Q {r : Rl α} : Zf (rs .Q r) := fun d xs h => by
  obtain ⟨h1, ds, h2, h3⟩ := h
  cases d with
  | tup es => rfl
  | lst m es => cases m with
    | fz => rfl
    | _ => cases h1
  | _ => cases h1
theorem sb_O {r r' : Rl α} (k : Sb r r') : Sb (rO r) (rO r') := fun d o h => by
  cases o with
  | none => exact h
  | some v => exact ⟨k _ _ h.1, h.2⟩
theorem sb_s {K : SK} {r r' : Rl α} (k : Sb r r') : Sb (rs K r) (rs K r') := fun d o ⟨h1, ds, h2, h3⟩ => ⟨h1, ds, h2, h3.mono k⟩
theorem sk_WA {d : D} (h1 : SK.W.is d) : SK.A.is d := by
  cases d with
  | lst m es => cases m <;> first | trivial | cases h1
  | _ => cases h1
theorem sk_FA {d : D} (h1 : SK.F.is d) : SK.A.is d := by
  cases d with
  | lst m es => cases m <;> first | trivial | cases h1
  | _ => cases h1
theorem sk_FQ {d : D} (h1 : SK.F.is d) : SK.Q.is d := by
  cases d with
  | lst m es => cases m <;> first | trivial | cases h1
  | _ => cases h1
theorem sk_TQ {d : D} (h1 : SK.T.is d) : SK.Q.is d := by
  cases d with
  | tup es => trivial
  | lst m es => cases m <;> cases h1
  | _ => cases h1
theorem sk_id {K : SK} {d : D} (h : K.is d) : K.is d := h
theorem sb_WA {r r' : Rl α} (k : Sb r r') : Sb (rs .W r) (rs .A r') := fun d o ⟨h1, ds, h2, h3⟩ => ⟨sk_WA h1, ds, h2, h3.mono k⟩
theorem sb_FA {r r' : Rl α} (k : Sb r r') : Sb (rs .F r) (rs .A r') := fun d o ⟨h1, ds, h2, h3⟩ => ⟨sk_FA h1, ds, h2, h3.mono k⟩
theorem sb_FQ {r r' : Rl α} (k : Sb r r') : Sb (rs .F r) (rs .Q r') := fun d o ⟨h1, ds, h2, h3⟩ => ⟨sk_FQ h1, ds, h2, h3.mono k⟩
theorem sb_TQ {r r' : Rl α} (k : Sb r r') : Sb (rs .T r) (rs .Q r') := fun d o ⟨h1, ds, h2, h3⟩ => ⟨sk_TQ h1, ds, h2, h3.mono k⟩
theorem sb_id {r : Rl α} : Sb r r := fun _ _ h => h
theorem fr_sb {r r' r'' : Rl α} (a : Fr r r') (b : Sb r' r'') : Fr r r'' := fun d v h => b _ _ (a d v h)
theorem fr_P2 {r1 : Rl α} {r2 : Rl β} : Fr (rP2 r1 r2) (rP2 r1 r2) := fun d v ⟨d1, d2, e, h⟩ => by subst e; exact ⟨d1, d2, rfl, h⟩
theorem fr_P3 {r1 : Rl α} {r2 : Rl β} {r3 : Rl γ} : Fr (rP3 r1 r2 r3) (rP3 r1 r2 r3) := fun d v ⟨d1, d2, d3, e, h⟩ => by subst e; exact ⟨d1, d2, d3, rfl, h⟩
theorem fr_P4 {r1 : Rl α} {r2 : Rl β} {r3 : Rl γ} {r4 : Rl δ} : Fr (rP4 r1 r2 r3 r4) (rP4 r1 r2 r3 r4) := fun d v ⟨d1, d2, d3, d4, e, h⟩ => by subst e; exact ⟨d1, d2, d3, d4, rfl, h⟩
theorem zf_P2 {r1 : Rl α} {r2 : Rl β} : Zf (rP2 r1 r2) := fun d v ⟨d1, d2, e, h⟩ => by subst e; rfl
theorem zf_P3 {r1 : Rl α} {r2 : Rl β} {r3 : Rl γ} : Zf (rP3 r1 r2 r3) := fun d v ⟨d1, d2, d3, e, h⟩ => by subst e; rfl
theorem zf_P4 {r1 : Rl α} {r2 : Rl β} {r3 : Rl γ} {r4 : Rl δ} : Zf (rP4 r1 r2 r3 r4) := fun d v ⟨d1, d2, d3, d4, e, h⟩ => by subst e; rfl
theorem sb_P2 {r1 r1' : Rl α} {r2 r2' : Rl β} (a : Sb r1 r1') (b : Sb r2 r2') : Sb (rP2 r1 r2) (rP2 r1' r2') := fun d v ⟨d1, d2, e, h1, h2⟩ => ⟨d1, d2, e, a _ _ h1, b _ _ h2⟩
theorem sb_P3 {r1 r1' : Rl α} {r2 r2' : Rl β} {r3 r3' : Rl γ} (a : Sb r1 r1') (b : Sb r2 r2') (c : Sb r3 r3') : Sb (rP3 r1 r2 r3) (rP3 r1' r2' r3') := fun d v ⟨d1, d2, d3, e, h1, h2, h3⟩ => ⟨d1, d2, d3, e, a _ _ h1, b _ _ h2, c _ _ h3⟩
theorem sb_P4 {r1 r1' : Rl α} {r2 r2' : Rl β} {r3 r3' : Rl γ} {r4 r4' : Rl δ} (a : Sb r1 r1') (b : Sb r2 r2') (c : Sb r3 r3') (c4 : Sb r4 r4') : Sb (rP4 r1 r2 r3 r4) (rP4 r1' r2' r3' r4') := fun d v ⟨d1, d2, d3, d4, e, h1, h2, h3, h4⟩ => ⟨d1, d2, d3, d4, e, a _ _ h1, b _ _ h2, c _ _ h3, c4 _ _ h4⟩
theorem lk_frz {K : SK} {d : D} (hl : K = .W ∨ K = .F ∨ K = .A) (h : K.is d) {ds : List D} (e : seqD d = some ds) : SK.F.is (frz d) ∧ seqD (frz d) = some (frzS ds) := by
  cases d with
  | lst m es => cases e; cases m <;> first | exact ⟨trivial, rfl⟩ | (rcases hl with rfl | rfl | rfl <;> cases h)
  | tup es => rcases hl with rfl | rfl | rfl <;> cases h
  | _ => cases e
theorem fr_H2 {K : SK} (hl : K = .W ∨ K = .F ∨ K = .A) {r1 r1' : Rl α} {r2 r2' : Rl β} (a : Fr r1 r1') (b : Fr r2 r2') : Fr (rH2 K r1 r2) (rH2 .F r1' r2') := fun d v ⟨h, d1, d2, e, h1, h2⟩ => ⟨(lk_frz hl h e).1, _, _, (lk_frz hl h e).2, a _ _ h1, b _ _ h2⟩
theorem fr_H3 {K : SK} (hl : K = .W ∨ K = .F ∨ K = .A) {r1 r1' : Rl α} {r2 r2' : Rl β} {r3 r3' : Rl γ} (a : Fr r1 r1') (b : Fr r2 r2') (c : Fr r3 r3') : Fr (rH3 K r1 r2 r3) (rH3 .F r1' r2' r3') := fun d v ⟨h, d1, d2, d3, e, h1, h2, h3⟩ => ⟨(lk_frz hl h e).1, _, _, _, (lk_frz hl h e).2, a _ _ h1, b _ _ h2, c _ _ h3⟩
theorem fr_H4 {K : SK} (hl : K = .W ∨ K = .F ∨ K = .A) {r1 r1' : Rl α} {r2 r2' : Rl β} {r3 r3' : Rl γ} {r4 r4' : Rl δ} (a : Fr r1 r1') (b : Fr r2 r2') (c : Fr r3 r3') (c4 : Fr r4 r4') : Fr (rH4 K r1 r2 r3 r4) (rH4 .F r1' r2' r3' r4') := fun d v ⟨h, d1, d2, d3, d4, e, h1, h2, h3, h4⟩ => ⟨(lk_frz hl h e).1, _, _, _, _, (lk_frz hl h e).2, a _ _ h1, b _ _ h2, c _ _ h3, c4 _ _ h4⟩
theorem lk_zf {d : D} (h : SK.F.is d) : d.fz = true := by
  cases d with
  | lst m es => cases m <;> first | rfl | cases h
  | _ => cases h
theorem zf_H2 {r1 : Rl α} {r2 : Rl β} : Zf (rH2 .F r1 r2) := fun d v h => lk_zf h.1
theorem zf_H3 {r1 : Rl α} {r2 : Rl β} {r3 : Rl γ} : Zf (rH3 .F r1 r2 r3) := fun d v h => lk_zf h.1
theorem zf_H4 {r1 : Rl α} {r2 : Rl β} {r3 : Rl γ} {r4 : Rl δ} : Zf (rH4 .F r1 r2 r3 r4) := fun d v h => lk_zf h.1
theorem sb_H2 {K K' : SK} (k : ∀ {d}, K.is d → K'.is d) {r1 r1' : Rl α} {r2 r2' : Rl β} (a : Sb r1 r1') (b : Sb r2 r2') : Sb (rH2 K r1 r2) (rH2 K' r1' r2') := fun d v ⟨h, d1, d2, e, h1, h2⟩ => ⟨k h, d1, d2, e, a _ _ h1, b _ _ h2⟩
theorem sb_H3 {K K' : SK} (k : ∀ {d}, K.is d → K'.is d) {r1 r1' : Rl α} {r2 r2' : Rl β} {r3 r3' : Rl γ} (a : Sb r1 r1') (b : Sb r2 r2') (c : Sb r3 r3') : Sb (rH3 K r1 r2 r3) (rH3 K' r1' r2' r3') := fun d v ⟨h, d1, d2, d3, e, h1, h2, h3⟩ => ⟨k h, d1, d2, d3, e, a _ _ h1, b _ _ h2, c _ _ h3⟩
end

/-! ### slots -/
abbrev Cx := List (Option Pd)
def Sat : Cx → Rho → Prop
  | [], ρ => ρ = []
  | none :: Γ, ρ => ∃ x r, ρ = x :: r ∧ Sat Γ r
  | some p :: Γ, ρ => ∃ d r, ρ = some d :: r ∧ p d ∧ Sat Γ r
theorem Sat.get : ∀ {Γ : Cx} {ρ : Rho} {i : Nat} {p : Pd}, Sat Γ ρ → Γ[i]? = some (some p) → ∃ d, ρ[i]? = some (some d) ∧ p d
  | [], _, i, p, _, h => by simp at h
  | none :: Γ, _, 0, p, _, h => by simp at h
  | some q :: Γ, _, 0, p, ⟨d, r, e, h1, _⟩, h => by subst e; simp at h; subst h; exact ⟨d, rfl, h1⟩
  | none :: Γ, _, i + 1, p, ⟨x, r, e, h1⟩, h => by subst e; obtain ⟨d, a, b⟩ := Sat.get (i := i) h1 (by simpa using h); exact ⟨d, by simpa using a, b⟩
  | some q :: Γ, _, i + 1, p, ⟨x, r, e, _, h1⟩, h => by subst e; obtain ⟨d, a, b⟩ := Sat.get (i := i) h1 (by simpa using h); exact ⟨d, by simpa using a, b⟩
theorem Sat.set {p : Pd} {d : D} (hp : p d) : ∀ {Γ : Cx} {ρ : Rho} (i : Nat), Sat Γ ρ → Sat (Γ.set i (some p)) (ρ.set i (some d))
  | [], _, i, h => by cases h; exact rfl
  | none :: Γ, _, 0, ⟨x, r, e, h⟩ => by subst e; exact ⟨d, r, rfl, hp, h⟩
  | some q :: Γ, _, 0, ⟨x, r, e, _, h⟩ => by subst e; exact ⟨d, r, rfl, hp, h⟩
  | none :: Γ, _, i + 1, ⟨x, r, e, h⟩ => by subst e; exact ⟨x, r.set i (some d), rfl, h.set hp i⟩
  | some q :: Γ, _, i + 1, ⟨x, r, e, h1, h⟩ => by subst e; exact ⟨x, r.set i (some d), rfl, h1, h.set hp i⟩
theorem Sat.unset : ∀ {Γ : Cx} {ρ : Rho} (i : Nat) (x : Option D), Sat Γ ρ → Sat (Γ.set i none) (ρ.set i x)
  | [], _, i, _, h => by cases h; exact rfl
  | none :: Γ, _, 0, y, ⟨x, r, e, h⟩ => by subst e; exact ⟨_, r, rfl, h⟩
  | some q :: Γ, _, 0, y, ⟨x, r, e, _, h⟩ => by subst e; exact ⟨_, r, rfl, h⟩
  | none :: Γ, _, i + 1, y, ⟨x, r, e, h⟩ => by subst e; exact ⟨x, r.set i y, rfl, h.unset i y⟩
  | some q :: Γ, _, i + 1, y, ⟨x, r, e, h1, h⟩ => by subst e; exact ⟨x, r.set i y, rfl, h1, h.unset i y⟩
/-- one slot less is known, or another thing of it -/
def Wk (Γ Γ' : Cx) : Prop := ∀ ρ, Sat Γ ρ → Sat Γ' ρ
theorem wk_id {Γ : Cx} : Wk Γ Γ := fun _ h => h
theorem wk_nil : Wk [] [] := fun _ h => h
theorem wk_k {x : Option Pd} {Γ Γ' : Cx} (h : Wk Γ Γ') : Wk (x :: Γ) (x :: Γ') := fun ρ s => by
  cases x with
  | none => obtain ⟨y, r, e, s⟩ := s; exact ⟨y, r, e, h _ s⟩
  | some p => obtain ⟨y, r, e, q, s⟩ := s; exact ⟨y, r, e, q, h _ s⟩
theorem wk_d {x : Option Pd} {Γ Γ' : Cx} (h : Wk Γ Γ') : Wk (x :: Γ) (none :: Γ') := fun ρ s => by
  cases x with
  | none => obtain ⟨y, r, e, s⟩ := s; exact ⟨y, r, e, h _ s⟩
  | some p => obtain ⟨y, r, e, q, s⟩ := s; exact ⟨some y, r, e, h _ s⟩
theorem wk_s {p q : Pd} {Γ Γ' : Cx} (k : ∀ d, p d → q d) (h : Wk Γ Γ') : Wk (some p :: Γ) (some q :: Γ') := fun ρ s => by
  obtain ⟨y, r, e, z, s⟩ := s; exact ⟨y, r, e, k _ z, h _ s⟩
theorem Wk.trans {Γ Γ' Γ'' : Cx} (a : Wk Γ Γ') (b : Wk Γ' Γ'') : Wk Γ Γ'' := fun ρ s => b ρ (a ρ s)

/-- freezing slots -/
def Fz (Γ : Cx) (ks : List Nat) (Γ1 : Cx) : Prop := ∀ ρ, Sat Γ ρ → Sat Γ1 (frzL ρ ks)
theorem frz_set_self {α : Type} : ∀ {ρ : List α} {i : Nat} {x : α}, ρ[i]? = some x → ρ.set i x = ρ
  | [], i, x, h => by simp at h
  | y :: ρ, 0, x, h => by simp at h; subst h; rfl
  | y :: ρ, i + 1, x, h => by simp at h; rw [List.set_cons_succ, frz_set_self h]
theorem fz_nil' {Γ : Cx} : Fz Γ [] Γ := fun _ h => h
theorem fz_cons {Γ Γ1 : Cx} {i : Nat} {ks : List Nat} {p p' : Pd} (h : Γ[i]? = some (some p)) (hp : ∀ d, p d → p' (frz d)) (k : Fz (Γ.set i (some p')) ks Γ1) : Fz Γ (i :: ks) Γ1 := fun ρ s => by
  obtain ⟨d, e, hd⟩ := s.get h
  show Sat Γ1 (frzL (frzAt ρ i) ks)
  refine k _ ?_
  unfold frzAt
  rw [e]
  exact s.set (hp d hd) i
theorem fz_same {Γ Γ1 : Cx} {i : Nat} {ks : List Nat} {p : Pd} (h : Γ[i]? = some (some p)) (hp : ∀ d, p d → p (frz d)) (k : Fz Γ ks Γ1) : Fz Γ (i :: ks) Γ1 := by
  refine fz_cons h hp ?_
  rw [frz_set_self h]
  exact k
theorem fz_skip {Γ Γ1 : Cx} {i : Nat} {ks : List Nat} (h : Γ[i]? = some none) (k : Fz Γ ks Γ1) : Fz Γ (i :: ks) Γ1 := fun ρ s => by
  show Sat Γ1 (frzL (frzAt ρ i) ks)
  refine k _ ?_
  unfold frzAt
  split
  · have := s.unset i (some (frz ‹D›))
    rw [frz_set_self h] at this
    exact this
  · exact s
end Y

/-! Y2: expressions. -/
namespace Y
open PySem Z

section
variable {α β γ δ : Type}
/-- data that may be compared -/
structure Dat (r : Rl α) (t : α → PyData) (n : Nat) : Prop where
  py : ∀ d v, r d v → toPy d = some (t v)
  dp : ∀ v, (t v).depth ≤ n
  lay : ∀ v, (t v).canLay0 = true
def EqF (t t' : α → PyData) : Prop := ∀ v w, PyData.eqv (t v) (t' w) = true ↔ v = w
def tI (i : Int) : PyData := .int i
def tB (b : Bool) : PyData := .bool b
def tO (t : α → PyData) : Option α → PyData
  | none => .none
  | some v => t v
def tL (t : α → PyData) (xs : List α) : PyData := .list (xs.map t)
def tT (t : α → PyData) (xs : List α) : PyData := .tuple (xs.map t)
def t2 (t : α → PyData) (u : β → PyData) (v : α × β) : PyData := .tuple [t v.1, u v.2]
def t3 (t : α → PyData) (u : β → PyData) (w : γ → PyData) (v : α × β × γ) : PyData := .tuple [t v.1, u v.2.1, w v.2.2]
def NoN (t : α → PyData) : Prop := ∀ v w, PyData.eqv .none (t v) = false ∧ PyData.eqv (t w) .none = false
theorem dat_I : Dat rI tI 0 := ⟨fun d v h => by cases (h : d = _); rfl, fun v => by unfold tI; simp [PyData.depth], fun v => rfl⟩
theorem dat_B : Dat rB tB 0 := ⟨fun d v h => by cases (h : d = _); rfl, fun v => by unfold tB; simp [PyData.depth], fun v => rfl⟩
theorem dat_O {r : Rl α} {t : α → PyData} {n : Nat} (h : Dat r t n) : Dat (rO r) (tO t) n := ⟨fun d v e => by
  cases v with
  | none => cases (e : d = _); rfl
  | some v => exact h.py _ _ e.1, fun v => by
  cases v with
  | none => simp [tO, PyData.depth]
  | some v => exact h.dp v, fun v => by
  cases v with
  | none => rfl
  | some v => exact h.lay v⟩
theorem All2.py {r : Rl α} {t : α → PyData} (k : ∀ d v, r d v → toPy d = some (t v)) : ∀ {ds : List D} {xs : List α}, All2 r ds xs → toPyS ds = some (xs.map t)
  | [], xs, h => by cases (h : xs = []); rfl
  | d :: ds, xs, h => by
    obtain ⟨v, vs, rfl, h1, h2⟩ := h
    simp only [toPyS, k _ _ h1, h2.py k, List.map_cons]
theorem depthAll_le {n : Nat} : ∀ {ps : List PyData}, (∀ p ∈ ps, p.depth ≤ n) → PyData.depthAll ps ≤ n
  | [], _ => by simp [PyData.depthAll]
  | p :: ps, h => by
    have h1 := h p List.mem_cons_self
    have h2 := depthAll_le fun q hq => h q (List.mem_cons_of_mem _ hq)
    simp only [PyData.depthAll]
    omega
theorem layAll {ps : List PyData} (h : ∀ p ∈ ps, p.canLay0 = true) : PyData.canLayAll0 ps = true := by
  induction ps with
  | nil => rfl
  | cons p r ih => simp only [PyData.canLayAll0, h p List.mem_cons_self, ih fun q hq => h q (List.mem_cons_of_mem _ hq), Bool.and_self]
theorem py_lst {m : M} {ds : List D} : toPy (.lst m ds) = (toPyS ds).map .list := by simp only [toPy]
theorem py_tup {ds : List D} : toPy (.tup ds) = (toPyS ds).map .tuple := by simp only [toPy]
theorem dat_L {K : SK} (hl : K = .W ∨ K = .F ∨ K = .A ∨ K = .R) {r : Rl α} {t : α → PyData} {n : Nat} (h : Dat r t n) : Dat (rs K r) (tL t) (n + 1) := ⟨fun d v e => by
  obtain ⟨h1, ds, h2, h3⟩ := e
  cases d with
  | lst m es => cases h2; rw [py_lst, h3.py h.py]; rfl
  | tup es => rcases hl with rfl | rfl | rfl | rfl <;> cases h1
  | _ => (cases h2), fun v => by
  unfold tL
  simp only [PyData.depth]
  have := depthAll_le (n := n) (ps := v.map t) fun p hp => by obtain ⟨x, _, rfl⟩ := List.mem_map.mp hp; exact h.dp x
  omega, fun v => by
  unfold tL
  simp only [PyData.canLay0]
  exact layAll fun p hp => by obtain ⟨x, _, rfl⟩ := List.mem_map.mp hp; exact h.lay x⟩
theorem dat_T {r : Rl α} {t : α → PyData} {n : Nat} (h : Dat r t n) : Dat (rs .T r) (tT t) (n + 1) := ⟨fun d v e => by
  obtain ⟨h1, ds, h2, h3⟩ := e
  cases d with
  | tup es => cases h2; rw [py_tup, h3.py h.py]; rfl
  | lst m es => cases m <;> cases h1
  | _ => (cases h2), fun v => by
  unfold tT
  simp only [PyData.depth]
  have := depthAll_le (n := n) (ps := v.map t) fun p hp => by obtain ⟨x, _, rfl⟩ := List.mem_map.mp hp; exact h.dp x
  omega, fun v => by
  unfold tT
  simp only [PyData.canLay0]
  exact layAll fun p hp => by obtain ⟨x, _, rfl⟩ := List.mem_map.mp hp; exact h.lay x⟩
theorem dat_P2 {r1 : Rl α} {t : α → PyData} {n : Nat} {r2 : Rl β} {u : β → PyData} {m : Nat} (h : Dat r1 t n) (k : Dat r2 u m) : Dat (rP2 r1 r2) (t2 t u) (n + m + 1) := ⟨fun d v e => by
  obtain ⟨d1, d2, rfl, h1, h2⟩ := e
  rw [py_tup]
  simp only [toPyS, h.py _ _ h1, k.py _ _ h2]
  rfl, fun v => by
  unfold t2
  have := h.dp v.1
  have := k.dp v.2
  simp only [PyData.depth, PyData.depthAll]
  omega, fun v => by
  unfold t2
  simp only [PyData.canLay0, PyData.canLayAll0, h.lay, k.lay, Bool.and_self]⟩
theorem dat_P3 {r1 : Rl α} {t : α → PyData} {n : Nat} {r2 : Rl β} {u : β → PyData} {m : Nat} {r3 : Rl γ} {w : γ → PyData} {l : Nat} (h : Dat r1 t n) (k : Dat r2 u m) (j : Dat r3 w l) : Dat (rP3 r1 r2 r3) (t3 t u w) (n + m + l + 1) := ⟨fun d v e => by
  obtain ⟨d1, d2, d3, rfl, h1, h2, h3⟩ := e
  rw [py_tup]
  simp only [toPyS, h.py _ _ h1, k.py _ _ h2, j.py _ _ h3]
  rfl, fun v => by
  unfold t3
  have := h.dp v.1
  have := k.dp v.2.1
  have := j.dp v.2.2
  simp only [PyData.depth, PyData.depthAll]
  omega, fun v => by
  unfold t3
  simp only [PyData.canLay0, PyData.canLayAll0, h.lay, k.lay, j.lay, Bool.and_self]⟩
theorem eqf_I : EqF tI tI := fun v w => by simp [tI, PyData.eqv]
theorem eqf_B : EqF tB tB := fun v w => by simp [tB, PyData.eqv]
theorem non_I : NoN tI := fun v w => ⟨rfl, rfl⟩
theorem non_B : NoN tB := fun v w => ⟨rfl, rfl⟩
theorem non_L {t : α → PyData} : NoN (tL t) := fun v w => ⟨rfl, rfl⟩
theorem non_T {t : α → PyData} : NoN (tT t) := fun v w => ⟨rfl, rfl⟩
theorem non_2 {t : α → PyData} {u : β → PyData} : NoN (t2 t u) := fun v w => ⟨rfl, rfl⟩
theorem non_3 {t : α → PyData} {u : β → PyData} {w : γ → PyData} : NoN (t3 t u w) := fun v w => ⟨rfl, rfl⟩
theorem eqf_O {t t' : α → PyData} (h : EqF t t') (n : NoN t) (n' : NoN t') : EqF (tO t) (tO t') := fun v w => by
  cases v with
  | none => cases w with
    | none => simp [tO, PyData.eqv]
    | some w => simp [tO, (n' w w).1]
  | some v => cases w with
    | none => simp [tO, (n v v).2]
    | some w => simp [tO, h v w]
theorem eqvAll_iff {t t' : α → PyData} (h : EqF t t') : ∀ xs ys : List α, PyData.eqvAll (xs.map t) (ys.map t') = true ↔ xs = ys
  | [], [] => by simp [PyData.eqvAll]
  | [], y :: ys => by simp [PyData.eqvAll]
  | x :: xs, [] => by simp [PyData.eqvAll]
  | x :: xs, y :: ys => by simp [PyData.eqvAll, h x y, eqvAll_iff h xs ys]
theorem eqf_L {t t' : α → PyData} (h : EqF t t') : EqF (tL t) (tL t') := fun v w => by
  unfold tL
  simp only [PyData.eqv]
  exact eqvAll_iff h v w
theorem eqf_T {t t' : α → PyData} (h : EqF t t') : EqF (tT t) (tT t') := fun v w => by
  unfold tT
  simp only [PyData.eqv]
  exact eqvAll_iff h v w
theorem eqf_2 {t t' : α → PyData} {u u' : β → PyData} (h : EqF t t') (k : EqF u u') : EqF (t2 t u) (t2 t' u') := fun v w => by
  unfold t2
  simp only [PyData.eqv, PyData.eqvAll, Bool.and_true, Bool.and_eq_true, h v.1 w.1, k v.2 w.2]
  exact ⟨fun e => Prod.ext e.1 e.2, fun e => by rw [e]; exact ⟨rfl, rfl⟩⟩
theorem eqf_3 {t t' : α → PyData} {u u' : β → PyData} {z z' : γ → PyData} (h : EqF t t') (k : EqF u u') (j : EqF z z') : EqF (t3 t u z) (t3 t' u' z') := fun v w => by
  unfold t3
  simp only [PyData.eqv, PyData.eqvAll, Bool.and_true, Bool.and_eq_true, h v.1 w.1, k v.2.1 w.2.1, j v.2.2 w.2.2]
  exact ⟨fun e => Prod.ext e.1 (Prod.ext e.2.1 e.2.2), fun e => by rw [e]; exact ⟨rfl, rfl, rfl⟩⟩
/-- two relations whose values are compared by == -/
def EqT (r r' : Rl α) : Prop := ∀ d e v w, r d v → r' e w → ∃ k, eqD d e = some k ∧ (k = true ↔ v = w) ∧ (toPy d).isSome = true ∧ (toPy e).isSome = true
theorem shaped_of {p : PyData} {n : Nat} (h : p.depth ≤ n) (hn : n ≤ 64) (k : p.canLay0 = true) : SeqAt.shaped p = true := by
  unfold SeqAt.shaped
  rw [k, decide_eq_true (by omega : p.depth ≤ 64)]
  rfl
theorem eqt {r r' : Rl α} {t t' : α → PyData} {n n' : Nat} (h : Dat r t n) (h' : Dat r' t' n') (e : EqF t t') (hn : n ≤ 64) (hn' : n' ≤ 64) : EqT r r' := fun d d' v w a b => by
  unfold eqD
  rw [h.py _ _ a, h'.py _ _ b]
  refine ⟨PyData.eqv (t v) (t' w), ?_, e v w, rfl, rfl⟩
  show (if SeqAt.shaped (t v) && SeqAt.shaped (t' w) then some (PyData.eqv (t v) (t' w)) else none) = _
  rw [shaped_of (h.dp v) hn (h.lay v), shaped_of (h'.dp w) hn' (h'.lay w)]
  rfl
/-- membership in a list -/
def InT (r : Rl α) (r' : Rl (List α)) : Prop := ∀ d e v w, r d v → r' e w → ∃ k, inD d e = some k ∧ (k = true ↔ v ∈ w)
theorem int_L {K : SK} (hl : K = .W ∨ K = .F ∨ K = .A ∨ K = .R) {r r' : Rl α} {t t' : α → PyData} {n n' : Nat} (h : Dat r t n) (h' : Dat r' t' n') (e : EqF t' t) (hn : n ≤ 64) (hn' : n' + 1 ≤ 64) : InT r (rs K r') := fun d d' v w a b => by
  have hL := dat_L hl h'
  obtain ⟨h1, ds, h2, h3⟩ := b
  have h3' := h3.py h'.py
  cases d' with
  | lst m es =>
    cases h2
    refine ⟨(w.map t').any fun z => PyData.eqv z (t v), ?_, ?_⟩
    · simp only [inD, h.py _ _ a, h3']
      rw [shaped_of (h.dp v) hn (h.lay v), show SeqAt.shaped (.list (w.map t')) = true from shaped_of (hL.dp w) hn' (hL.lay w)]
      rfl
    · rw [List.any_map, List.any_eq_true]
      constructor
      · rintro ⟨x, hx, e2⟩
        rw [← (e x v).mp e2]
        exact hx
      · exact fun hx => ⟨v, hx, (e v v).mpr rfl⟩
  | tup es => rcases hl with rfl | rfl | rfl | rfl <;> cases h1
  | _ => cases h2
theorem all2_flat : ∀ {ds : List D} {w : List Int}, All2 rI ds w → ds.all D.flat = true ∧ ∀ v : Int, (ds.any fun z => L2.eqV z.v (D.int v).v) = true ↔ v ∈ w
  | [], w, h => by cases (h : w = []); exact ⟨rfl, fun v => by simp⟩
  | d :: ds, w, h => by
    obtain ⟨u, vs, rfl, h1, h2⟩ := h
    cases (h1 : d = _)
    obtain ⟨a, b⟩ := all2_flat h2
    refine ⟨by rw [List.all_cons, a]; rfl, fun v => ?_⟩
    rw [List.any_cons, Bool.or_eq_true, b v, List.mem_cons]
    refine or_congr ?_ Iff.rfl
    show (u == v) = true ↔ _
    rw [beq_iff_eq]
    exact eq_comm
theorem int_TI : InT rI (rs .T rI) := fun d d' v w a b => by
  cases (a : d = _)
  obtain ⟨h1, ds, h2, h3⟩ := b
  cases d' with
  | tup es =>
    cases h2
    obtain ⟨a, b⟩ := all2_flat h3
    refine ⟨_, ?_, b v⟩
    simp only [inD, D.flat, a, Bool.and_self, if_true]
  | lst m es => cases m <;> cases h1
  | _ => cases h2
theorem int_QI : InT rI (rs .Q rI) := fun d d' v w a b => by
  obtain ⟨h1, ds, h2, h3⟩ := b
  cases d' with
  | tup es => exact int_TI _ _ _ _ a ⟨trivial, ds, h2, h3⟩
  | lst m es => cases m with
    | fz => exact int_L (K := .F) (by simp) dat_I dat_I eqf_I (by omega) (by omega) _ _ _ _ a ⟨trivial, ds, h2, h3⟩
    | _ => cases h1
  | _ => cases h2
end

/-! ### judgements -/
section
variable {G : Gd} {Γ Γ1 : Cx} {α β γ δ ε : Type}
def EvP (G : Gd) (Γ : Cx) (e : E) (r : Rl α) (v : α) : Prop := ∀ ρ, Sat Γ ρ → ∃ d f, ev G e ρ = some (d, f) ∧ r d v
def EvR (G : Gd) (Γ : Cx) (e : E) (r : Rl α) (v : α) : Prop := ∀ ρ, Sat Γ ρ → ∃ d, ev G e ρ = some (d, true) ∧ r d v
theorem EvR.p {e : E} {r : Rl α} {v : α} (h : EvR G Γ e r v) : EvP G Γ e r v := fun ρ s => let ⟨d, a, b⟩ := h ρ s; ⟨d, true, a, b⟩
theorem EvR.sb {e : E} {r r' : Rl α} {v : α} (h : EvR G Γ e r v) (k : Sb r r') : EvR G Γ e r' v := fun ρ s => let ⟨d, a, b⟩ := h ρ s; ⟨d, a, k _ _ b⟩
theorem EvP.sb {e : E} {r r' : Rl α} {v : α} (h : EvP G Γ e r v) (k : Sb r r') : EvP G Γ e r' v := fun ρ s => let ⟨d, f, a, b⟩ := h ρ s; ⟨d, f, a, k _ _ b⟩
theorem EvR.eq {e : E} {r : Rl α} {v w : α} (h : EvR G Γ e r v) (k : v = w) : EvR G Γ e r w := by subst k; exact h
theorem EvP.eq {e : E} {r : Rl α} {v w : α} (h : EvP G Γ e r v) (k : v = w) : EvP G Γ e r w := by subst k; exact h
theorem p_slot {i : Nat} {r : Rl α} {v : α} (h : Γ[i]? = some (some fun d => r d v)) : EvP G Γ (.slot i) r v := fun ρ s => by
  obtain ⟨d, e, hd⟩ := s.get h
  exact ⟨d, d.fz, by rw [ev_slot, e], hd⟩
theorem r_slot {i : Nat} {r : Rl α} {v : α} (h : Γ[i]? = some (some fun d => r d v)) (z : Zf r) : EvR G Γ (.slot i) r v := fun ρ s => by
  obtain ⟨d, e, hd⟩ := s.get h
  exact ⟨d, by rw [ev_slot, e]; show some (d, d.fz) = _; rw [z _ _ hd], hd⟩
theorem r_int (i : Int) : EvR G Γ (.con (.int i)) rI i := fun ρ s => ⟨_, by rw [ev_con]; rfl, rfl⟩
theorem r_bl (i : Bool) : EvR G Γ (.con (.bl i)) rB i := fun ρ s => ⟨_, by rw [ev_con]; rfl, rfl⟩
theorem r_non : EvR G Γ (.con .non) rU () := fun ρ s => ⟨_, by rw [ev_con]; rfl, rfl⟩
theorem r_nonO {r : Rl α} : EvR G Γ (.con .non) (rO r) none := fun ρ s => ⟨_, by rw [ev_con]; rfl, rfl⟩
theorem r_str (x : Str) : EvR G Γ (.con (.str x)) rS x := fun ρ s => ⟨_, by rw [ev_con]; rfl, rfl⟩
theorem r_keep {e : E} {r : Rl α} {v : α} (h : EvR G Γ e r v) : EvR G Γ (.keep e) r v := fun ρ s => let ⟨d, a, b⟩ := h ρ s; ⟨d, by rw [ev_keep]; exact a, b⟩
/-- what is never None -/
abbrev NN (r : Rl α) : Prop := ∀ d v, r d v → d.isN = false
theorem nn_I : NN rI := fun d v h => by cases (h : d = _); rfl
theorem nn_B : NN rB := fun d v h => by cases (h : d = _); rfl
theorem nn_S : NN rS := fun d v h => by cases (h : d = _); rfl
theorem nn_s {K : SK} {r : Rl α} : NN (rs K r) := fun d v h => by
  obtain ⟨h1, ds, h2, h3⟩ := h
  cases d <;> first | rfl | cases h2
theorem nn_P2 {r1 : Rl α} {r2 : Rl β} : NN (rP2 r1 r2) := fun d v h => by obtain ⟨_, _, rfl, _⟩ := h; rfl
theorem nn_P3 {r1 : Rl α} {r2 : Rl β} {r3 : Rl γ} : NN (rP3 r1 r2 r3) := fun d v h => by obtain ⟨_, _, _, rfl, _⟩ := h; rfl
theorem r_some {e : E} {r : Rl α} {v : α} (h : EvR G Γ e r v) (k : NN r) : EvR G Γ e (rO r) (some v) := fun ρ s => let ⟨d, a, b⟩ := h ρ s; ⟨d, a, b, k _ _ b⟩
theorem p_some {e : E} {r : Rl α} {v : α} (h : EvP G Γ e (rO r) (some v)) : EvP G Γ e r v := fun ρ s => let ⟨d, f, a, b⟩ := h ρ s; ⟨d, f, a, b.1⟩
theorem rr_some {e : E} {r : Rl α} {v : α} (h : EvR G Γ e (rO r) (some v)) : EvR G Γ e r v := fun ρ s => let ⟨d, a, b⟩ := h ρ s; ⟨d, a, b.1⟩

theorem binG_ii {op : Operator} {x y : Int} : binG G op (.int x) (.int y) = binD op (.int x) (.int y) := rfl
theorem r_bin {op : Operator} {a b : E} {x y z : Int} (ha : EvP G Γ a rI x) (hb : EvP G Γ b rI y) (h : binD op (.int x) (.int y) = some (.int z)) : EvR G Γ (.bin op a b) rI z := fun ρ s => by
  obtain ⟨d, f, e1, rfl⟩ := ha ρ s
  obtain ⟨d', f', e2, rfl⟩ := hb ρ s
  exact ⟨_, by rw [ev_bin, e1, e2]; show (binG G op _ _).map _ = _; rw [binG_ii, h]; rfl, rfl⟩
theorem r_add {a b : E} {x y : Int} (ha : EvP G Γ a rI x) (hb : EvP G Γ b rI y) : EvR G Γ (.bin .Add a b) rI (x + y) := r_bin ha hb rfl
theorem r_sub {a b : E} {x y : Int} (ha : EvP G Γ a rI x) (hb : EvP G Γ b rI y) : EvR G Γ (.bin .Sub a b) rI (x - y) := r_bin ha hb rfl
theorem of_ok {α : Type} {c : Bool} {x z : α} (h : (if c then P.ok x else P.no) = .ok z) : c = true ∧ x = z := by
  cases c
  · cases h
  · cases h; exact ⟨rfl, rfl⟩
theorem of_okp {α : Type} {c : Prop} [Decidable c] {x z : α} (h : (if c then P.ok x else P.no) = .ok z) : c ∧ x = z := by
  by_cases hc : c
  · rw [if_pos hc] at h; cases h; exact ⟨hc, rfl⟩
  · rw [if_neg hc] at h; cases h
theorem r_mul {a b : E} {x y z : Int} (ha : EvP G Γ a rI x) (hb : EvP G Γ b rI y) (h : mulI x y = .ok z) : EvR G Γ (.bin .Mult a b) rI z := r_bin ha hb (by
  obtain ⟨h1, rfl⟩ := of_ok h
  have h1' : (mulOk x y || decide (x.natAbs.log2 + y.natAbs.log2 < 1000000)) = true := h1
  show (if (mulOk x y || decide (x.natAbs.log2 + y.natAbs.log2 < 1000000)) = true then _ else _) = _
  rw [if_pos h1'])
theorem r_mulL {a b : E} {x y : Int} (ha : EvP G Γ a rI x) (hb : EvP G Γ b rI y) (h : (small x || small y) = true) : EvR G Γ (.bin .Mult a b) rI (x * y) := r_mul ha hb (by unfold mulI; rw [h]; rfl)
theorem sm_l {x y : Int} (h : small x = true) : (small x || small y) = true := by rw [h]; rfl
theorem sm_r {x y : Int} (h : small y = true) : (small x || small y) = true := by rw [h]; simp
theorem sm_b (b : Bool) : small (b2i b) = true := by cases b <;> decide
theorem r_div {a b : E} {x y z : Int} (ha : EvP G Γ a rI x) (hb : EvP G Γ b rI y) (h : divI x y = .ok z) : EvR G Γ (.bin .FloorDiv a b) rI z := r_bin ha hb (by
  obtain ⟨h1, rfl⟩ := of_ok h
  show (if _ then _ else _) = _
  rw [if_pos h1])
theorem r_divL {a b : E} {x y : Int} (ha : EvP G Γ a rI x) (hb : EvP G Γ b rI y) (h : (decide (0 < y) && decide (y < 1073741824)) = true) : EvR G Γ (.bin .FloorDiv a b) rI (x / y) := r_div ha hb (by
  unfold divI
  rw [Bool.and_eq_true] at h
  rw [h.1, h.2]; rfl)
theorem r_mod {a b : E} {x y z : Int} (ha : EvP G Γ a rI x) (hb : EvP G Γ b rI y) (h : modI x y = .ok z) : EvR G Γ (.bin .Mod a b) rI z := r_bin ha hb (by
  obtain ⟨h1, rfl⟩ := of_okp h
  show (if _ then _ else _) = _
  rw [if_pos (decide_eq_true h1)])
theorem r_modL {a b : E} {x y : Int} (ha : EvP G Γ a rI x) (hb : EvP G Γ b rI y) (h : decide (0 < y) = true) : EvR G Γ (.bin .Mod a b) rI (x % y) := r_mod ha hb (by
  unfold modI
  rw [if_pos (of_decide_eq_true h)])
theorem r_pow {a b : E} {x y z : Int} (ha : EvP G Γ a rI x) (hb : EvP G Γ b rI y) (h : powI x y = .ok z) : EvR G Γ (.bin .Pow a b) rI z := r_bin ha hb (by
  obtain ⟨h1, rfl⟩ := of_ok h
  have h1' : shOk x y = true := h1
  show (if shOk x y = true then _ else _) = _
  rw [if_pos h1'])
theorem r_powL {a b : E} {x y : Int} {n : Nat} (ha : EvP G Γ a rI x) (hb : EvP G Γ b rI y) (h : shiftOk x y = true) (hn : y.toNat = n) : EvR G Γ (.bin .Pow a b) rI (x ^ n) := r_pow ha hb (by unfold powI; rw [h, hn]; rfl)
theorem r_shl {a b : E} {x y z : Int} (ha : EvP G Γ a rI x) (hb : EvP G Γ b rI y) (h : shlI x y = .ok z) : EvR G Γ (.bin .LShift a b) rI z := r_bin ha hb (by
  obtain ⟨h1, rfl⟩ := of_ok h
  have h1' : shOk x y = true := h1
  show (if shOk x y = true then _ else _) = _
  rw [if_pos h1'])
theorem r_shr {a b : E} {x y z : Int} (ha : EvP G Γ a rI x) (hb : EvP G Γ b rI y) (h : shrI x y = .ok z) : EvR G Γ (.bin .RShift a b) rI z := r_bin ha hb (by
  obtain ⟨h1, rfl⟩ := of_okp h
  show (if _ then _ else _) = _
  rw [if_pos (decide_eq_true h1)])
theorem r_and_ {a b : E} {x y : Int} (ha : EvP G Γ a rI x) (hb : EvP G Γ b rI y) : EvR G Γ (.bin .BitAnd a b) rI (band x y) := r_bin ha hb rfl
theorem r_or_ {a b : E} {x y : Int} (ha : EvP G Γ a rI x) (hb : EvP G Γ b rI y) : EvR G Γ (.bin .BitOr a b) rI (bor x y) := r_bin ha hb rfl
theorem r_xor_ {a b : E} {x y : Int} (ha : EvP G Γ a rI x) (hb : EvP G Γ b rI y) : EvR G Γ (.bin .BitXor a b) rI (bxor x y) := r_bin ha hb rfl
theorem r_neg {a : E} {x : Int} (ha : EvP G Γ a rI x) : EvR G Γ (.un .USub a) rI (-x) := fun ρ s => by
  obtain ⟨d, f, e1, rfl⟩ := ha ρ s
  exact ⟨_, by rw [ev_un, e1]; rfl, rfl⟩
theorem r_inv {a : E} {x : Int} (ha : EvP G Γ a rI x) : EvR G Γ (.un .Invert a) rI (bnot x) := fun ρ s => by
  obtain ⟨d, f, e1, rfl⟩ := ha ρ s
  exact ⟨_, by rw [ev_un, e1]; rfl, rfl⟩
/-- list + list -/
theorem r_cat {K K' : SK} (hl : K = .W ∨ K = .F ∨ K = .A) (hl' : K' = .W ∨ K' = .F ∨ K' = .A) {a b : E} {r : Rl α} {x y z : List α} (ha : EvP G Γ a (rs K r) x) (hb : EvP G Γ b (rs K' r) y) (hz : Zf r) (h : cat x y = .ok z) : EvR G Γ (.bin .Add a b) (rs .W r) z := fun ρ s => by
  obtain ⟨d, f, e1, h1, ds, h2, h3⟩ := ha ρ s
  obtain ⟨d', f', e2, h1', ds', h2', h3'⟩ := hb ρ s
  obtain ⟨hc, rfl⟩ := of_okp h
  have k : ∃ m, d = .lst m ds ∧ m ≠ .ro := by
    cases d with
    | lst m es => cases h2; refine ⟨m, rfl, ?_⟩; rintro rfl; rcases hl with rfl | rfl | rfl <;> cases h1
    | tup es => rcases hl with rfl | rfl | rfl <;> cases h1
    | _ => cases h2
  have k' : ∃ m, d' = .lst m ds' ∧ m ≠ .ro := by
    cases d' with
    | lst m es => cases h2'; refine ⟨m, rfl, ?_⟩; rintro rfl; rcases hl' with rfl | rfl | rfl <;> cases h1'
    | tup es => rcases hl' with rfl | rfl | rfl <;> cases h1'
    | _ => cases h2'
  obtain ⟨m, rfl, hm⟩ := k
  obtain ⟨m', rfl, hm'⟩ := k'
  refine ⟨.lst .own (ds ++ ds'), ?_, trivial, _, rfl, h3.append h3'⟩
  rw [ev_bin, e1, e2]
  show (binG G .Add (.lst m ds) (.lst m' ds')).map _ = _
  rw [binG_l]
  show (if decide (m ≠ .ro) && decide (m' ≠ .ro) && fzs ds && fzs ds' && decide (ds.length + ds'.length ≤ most) then some (D.lst .own (ds ++ ds')) else none).map _ = _
  rw [decide_eq_true hm, decide_eq_true hm', h3.fz hz, h3'.fz hz, decide_eq_true (by rw [h3.len, h3'.len]; exact hc : ds.length + ds'.length ≤ most)]
  rfl
theorem r_rep {a b : E} {r : Rl α} {x z : List α} {n : Int} (ha : EvP G Γ a (rs .W r) x) (hb : EvP G Γ b rI n) (hz : Zf r) (h : rep x n = .ok z) : EvR G Γ (.bin .Mult a b) (rs .W r) z := fun ρ s => by
  obtain ⟨d, f, e1, h1, ds, h2, h3⟩ := ha ρ s
  obtain ⟨d', f', e2, rfl⟩ := hb ρ s
  obtain ⟨hc, rfl⟩ := of_okp h
  cases d with
  | lst m es =>
    cases m with
    | own =>
      cases h2
      refine ⟨.lst .own ((List.replicate n.toNat ds).flatten), ?_, trivial, _, rfl, h3.rep _⟩
      rw [ev_bin, e1, e2]
      show (binG G .Mult (D.lst .own ds) (.int n)).map _ = _
      rw [binG_l]
      show (if fzs ds && decide (0 ≤ n) && decide (n ≤ most) && decide (ds.length * n.toNat ≤ most) then some (D.lst .own ((List.replicate n.toNat ds).flatten)) else none).map _ = _
      rw [h3.fz hz, decide_eq_true hc.1, show decide (n ≤ ((most : Nat) : Int)) = true from decide_eq_true hc.2.1, decide_eq_true (by rw [h3.len]; exact hc.2.2 : ds.length * n.toNat ≤ most)]
      rfl
    | _ => cases h1
  | _ => cases h1

/-! comparisons -/
theorem r_cmpI {op : CmpOp} {a b : E} {x y : Int} {k : Bool} (ha : EvP G Γ a rI x) (hb : EvP G Γ b rI y) (h : cmpD op (.int x) (.int y) = some k) : EvR G Γ (.cmp op a b) rB k := fun ρ s => by
  obtain ⟨d, f, e1, rfl⟩ := ha ρ s
  obtain ⟨d', f', e2, rfl⟩ := hb ρ s
  exact ⟨_, by rw [ev_cmp, e1, e2]; show (cmpG G op _ _).map _ = _; rw [cmpG_i, h]; rfl, rfl⟩
theorem r_lt {a b : E} {x y : Int} (ha : EvP G Γ a rI x) (hb : EvP G Γ b rI y) : EvR G Γ (.cmp .Lt a b) rB (decide (x < y)) := r_cmpI ha hb rfl
theorem r_le {a b : E} {x y : Int} (ha : EvP G Γ a rI x) (hb : EvP G Γ b rI y) : EvR G Γ (.cmp .LtE a b) rB (decide (x ≤ y)) := r_cmpI ha hb rfl
theorem r_gt {a b : E} {x y : Int} (ha : EvP G Γ a rI x) (hb : EvP G Γ b rI y) : EvR G Γ (.cmp .Gt a b) rB (decide (y < x)) := r_cmpI ha hb rfl
theorem r_ge {a b : E} {x y : Int} (ha : EvP G Γ a rI x) (hb : EvP G Γ b rI y) : EvR G Γ (.cmp .GtE a b) rB (decide (y ≤ x)) := r_cmpI ha hb rfl
theorem cmpG_data {op : CmpOp} {x y : D} (ho : op = .Eq ∨ op = .NotEq) (hx : (toPy x).isSome = true) (hy : (toPy y).isSome = true) : cmpG G op x y = cmpD op x y := by
  cases x <;> cases y <;> first | (rcases ho with rfl | rfl <;> rfl) | (simp [toPy] at hx; done) | (simp [toPy] at hy; done) | skip
  all_goals (rcases ho with rfl | rfl <;> rfl)
theorem bool_eq {k : Bool} {p : Prop} [Decidable p] (h : k = true ↔ p) : k = decide p := by
  cases k
  · have hp : ¬ p := fun x => Bool.noConfusion (h.mpr x)
    rw [decide_eq_false hp]
  · rw [decide_eq_true (h.mp rfl)]
theorem r_eq {a b : E} {r r' : Rl α} {x y : α} [Decidable (x = y)] (t : EqT r r') (ha : EvP G Γ a r x) (hb : EvP G Γ b r' y) : EvR G Γ (.cmp .Eq a b) rB (decide (x = y)) := fun ρ s => by
  obtain ⟨d, f, e1, h1⟩ := ha ρ s
  obtain ⟨d', f', e2, h2⟩ := hb ρ s
  obtain ⟨k, e3, h3, h4, h5⟩ := t _ _ _ _ h1 h2
  refine ⟨.bl k, ?_, by rw [bool_eq h3]; rfl⟩
  rw [ev_cmp, e1, e2]
  show (cmpG G .Eq d d').map _ = _
  rw [cmpG_data (.inl rfl) h4 h5]
  show (eqD d d').map _ = _
  rw [e3]
  rfl
theorem r_ne {a b : E} {r r' : Rl α} {x y : α} [Decidable (x = y)] (t : EqT r r') (ha : EvP G Γ a r x) (hb : EvP G Γ b r' y) : EvR G Γ (.cmp .NotEq a b) rB (!decide (x = y)) := fun ρ s => by
  obtain ⟨d, f, e1, h1⟩ := ha ρ s
  obtain ⟨d', f', e2, h2⟩ := hb ρ s
  obtain ⟨k, e3, h3, h4, h5⟩ := t _ _ _ _ h1 h2
  refine ⟨.bl (!k), ?_, by rw [bool_eq h3]; rfl⟩
  rw [ev_cmp, e1, e2]
  show (cmpG G .NotEq d d').map _ = _
  rw [cmpG_data (.inr rfl) h4 h5]
  show ((eqD d d').map (!·)).map _ = _
  rw [e3]
  rfl
theorem cmpG_in {op : CmpOp} {x y : D} {ds : List D} (ho : op = .In ∨ op = .NotIn) (hy : seqD y = some ds) : cmpG G op x y = cmpD op x y := by
  cases y with
  | lst m es => rcases ho with rfl | rfl <;> cases x <;> first | rfl | (rename_i m _ _ _; cases m <;> rfl)
  | tup es => rcases ho with rfl | rfl <;> cases x <;> first | rfl | (rename_i m _ _ _; cases m <;> rfl)
  | _ => cases hy
theorem r_in {K : SK} {a b : E} {r r' : Rl α} {x : α} {y : List α} [Decidable (x ∈ y)] (t : InT r (rs K r')) (ha : EvP G Γ a r x) (hb : EvP G Γ b (rs K r') y) : EvR G Γ (.cmp .In a b) rB (decide (x ∈ y)) := fun ρ s => by
  obtain ⟨d, f, e1, h1⟩ := ha ρ s
  obtain ⟨d', f', e2, h2⟩ := hb ρ s
  obtain ⟨k, e3, h3⟩ := t _ _ _ _ h1 h2
  obtain ⟨_, ds, h4, _⟩ := h2
  refine ⟨.bl k, ?_, by rw [bool_eq h3]; rfl⟩
  rw [ev_cmp, e1, e2]
  show (cmpG G .In d d').map _ = _
  rw [cmpG_in (.inl rfl) h4]
  show (inD d d').map _ = _
  rw [e3]
  rfl
theorem r_nin {K : SK} {a b : E} {r r' : Rl α} {x : α} {y : List α} [Decidable (x ∈ y)] (t : InT r (rs K r')) (ha : EvP G Γ a r x) (hb : EvP G Γ b (rs K r') y) : EvR G Γ (.cmp .NotIn a b) rB (!decide (x ∈ y)) := fun ρ s => by
  obtain ⟨d, f, e1, h1⟩ := ha ρ s
  obtain ⟨d', f', e2, h2⟩ := hb ρ s
  obtain ⟨k, e3, h3⟩ := t _ _ _ _ h1 h2
  obtain ⟨_, ds, h4, _⟩ := h2
  refine ⟨.bl (!k), ?_, by rw [bool_eq h3]; rfl⟩
  rw [ev_cmp, e1, e2]
  show (cmpG G .NotIn d d').map _ = _
  rw [cmpG_in (.inr rfl) h4]
  show ((inD d d').map (!·)).map _ = _
  rw [e3]
  rfl
theorem r_isN {a : E} {r : Rl α} {o : Option α} (ha : EvP G Γ a (rO r) o) : EvR G Γ (.cmp .Is a (.con .non)) rB o.isNone := fun ρ s => by
  obtain ⟨d, f, e1, h1⟩ := ha ρ s
  refine ⟨.bl o.isNone, ?_, rfl⟩
  rw [ev_cmp, e1, ev_con]
  show (cmpG G .Is d .non).map _ = _
  rw [cmpG_n]
  show (some d.isN).map _ = _
  cases o with
  | none => cases (h1 : d = _); rfl
  | some v => rw [h1.2]; rfl
theorem r_isNN {a : E} {r : Rl α} {o : Option α} (ha : EvP G Γ a (rO r) o) : EvR G Γ (.cmp .IsNot a (.con .non)) rB o.isSome := fun ρ s => by
  obtain ⟨d, f, e1, h1⟩ := ha ρ s
  refine ⟨.bl o.isSome, ?_, rfl⟩
  rw [ev_cmp, e1, ev_con]
  show (cmpG G .IsNot d .non).map _ = _
  rw [cmpG_n]
  show (some (!d.isN)).map _ = _
  cases o with
  | none => cases (h1 : d = _); rfl
  | some v => rw [h1.2]; rfl
theorem r_chain {op op' : CmpOp} {a b c : E} {x y z : Int} {k k' : Bool} (ha : EvP G Γ a rI x) (hb : EvP G Γ b rI y) (hc : EvP G Γ c rI z) (h : cmpD op (.int x) (.int y) = some k) (h' : cmpD op' (.int y) (.int z) = some k') : EvR G Γ (.chain op op' a b c) rB (k && k') := fun ρ s => by
  obtain ⟨d, f, e1, rfl⟩ := ha ρ s
  obtain ⟨d', f', e2, rfl⟩ := hb ρ s
  obtain ⟨d'', f'', e3, rfl⟩ := hc ρ s
  refine ⟨.bl (k && k'), ?_, rfl⟩
  rw [ev_chain, e1, e2]
  cases k
  · simp only [h, Bool.false_and]
  · simp only [h, e3, h', Option.map_some, Bool.true_and]
theorem r_and {a b : E} {x y : Bool} (ha : EvP G Γ a rB x) (hb : x = true → EvP G Γ b rB y) : EvR G Γ (.and a b) rB (x && y) := fun ρ s => by
  obtain ⟨d, f, e1, rfl⟩ := ha ρ s
  cases x
  · exact ⟨.bl false, by rw [ev_and, e1], rfl⟩
  · obtain ⟨d', f', e2, rfl⟩ := hb rfl ρ s
    exact ⟨.bl y, by rw [ev_and, e1]; simp only [e2], rfl⟩
theorem r_or {a b : E} {x y : Bool} (ha : EvP G Γ a rB x) (hb : x = false → EvP G Γ b rB y) : EvR G Γ (.or a b) rB (x || y) := fun ρ s => by
  obtain ⟨d, f, e1, rfl⟩ := ha ρ s
  cases x
  · obtain ⟨d', f', e2, rfl⟩ := hb rfl ρ s
    exact ⟨.bl y, by rw [ev_or, e1]; simp only [e2], rfl⟩
  · exact ⟨.bl true, by rw [ev_or, e1], rfl⟩
theorem r_not {a : E} {x : Bool} (ha : EvP G Γ a rB x) : EvR G Γ (.not a) rB (!x) := fun ρ s => by
  obtain ⟨d, f, e1, rfl⟩ := ha ρ s
  exact ⟨.bl (!x), by rw [ev_not, e1], rfl⟩
/-- and, or whose right side may be without an answer -/
theorem r_andM {a b : E} {x t : Bool} {m : P Bool} (ha : EvP G Γ a rB x) (h : (if x then m else .ok false) = .ok t) (hb : ∀ y, m = .ok y → EvP G Γ b rB y) : EvR G Γ (.and a b) rB t := by
  cases x
  · cases h; exact (r_and (y := true) ha fun z => nomatch z)
  · exact (r_and ha fun _ => hb t h).eq (by simp)
theorem r_orM {a b : E} {x t : Bool} {m : P Bool} (ha : EvP G Γ a rB x) (h : (if x then .ok true else m) = .ok t) (hb : ∀ y, m = .ok y → EvP G Γ b rB y) : EvR G Γ (.or a b) rB t := by
  cases x
  · exact (r_or ha fun _ => hb t h).eq (by simp)
  · cases h; exact (r_or (y := true) ha fun z => nomatch z)
theorem r_ite {c a b : E} {r : Rl α} {x y : α} {t : Bool} (hc : EvP G Γ c rB t) (ha : t = true → EvR G Γ a r x) (hb : t = false → EvR G Γ b r y) : EvR G Γ (.ite c a b) r (if t then x else y) := fun ρ s => by
  obtain ⟨d, f, e1, rfl⟩ := hc ρ s
  cases t
  · obtain ⟨d', e2, h⟩ := hb rfl ρ s
    exact ⟨d', by rw [ev_ite, e1]; exact e2, h⟩
  · obtain ⟨d', e2, h⟩ := ha rfl ρ s
    exact ⟨d', by rw [ev_ite, e1]; exact e2, h⟩
theorem r_iteM {c a b : E} {r : Rl α} {z : α} {t : Bool} {m n : P α} (hc : EvP G Γ c rB t) (h : (if t then m else n) = .ok z) (ha : ∀ x, m = .ok x → EvR G Γ a r x) (hb : ∀ x, n = .ok x → EvR G Γ b r x) : EvR G Γ (.ite c a b) r z := by
  cases t
  · exact (r_ite (x := z) hc (fun e => nomatch e) fun _ => hb z h).eq (by simp)
  · exact (r_ite (y := z) hc (fun _ => ha z h) fun e => nomatch e).eq (by simp)

/-! sequences -/
theorem getI_at {xs : List α} {i : Int} {v : α} {r : Rl α} {ds : List D} (h : getI xs i = .ok v) (k : All2 r ds xs) : ∃ d, at? ds i = some d ∧ r d v := by
  unfold getI at h
  cases e : ixI xs.length i with
  | none => rw [e] at h; cases h
  | some j =>
    rw [e] at h
    cases e2 : xs[j]? with
    | none => rw [Option.bind_some, e2] at h; cases h
    | some w =>
      rw [Option.bind_some, e2] at h
      cases h
      obtain ⟨d, h1, h2⟩ := k.get e2
      refine ⟨d, ?_, h2⟩
      show (L2.ixN ds.length i).bind (fun j => ds[j]?) = _
      rw [k.len]
      show (ixI xs.length i).bind _ = _
      rw [e]
      exact h1
theorem p_idx {K : SK} {a b : E} {r : Rl α} {xs : List α} {i : Int} {v : α} (ha : EvP G Γ a (rs K r) xs) (hb : EvP G Γ b rI i) (h : getI xs i = .ok v) : EvP G Γ (.idx a b) r v := fun ρ s => by
  obtain ⟨d, f, e1, _, ds, h2, h3⟩ := ha ρ s
  obtain ⟨d', f', e2, rfl⟩ := hb ρ s
  obtain ⟨x, h4, h5⟩ := getI_at h h3
  exact ⟨x, x.fz, by rw [ev_idx, e1, e2]; simp only [h2, h4, Option.map_some], h5⟩
theorem EvP.r {e : E} {r : Rl α} {v : α} (h : EvP G Γ e r v) (z : ∀ ρ d f, ev G e ρ = some (d, f) → f = d.fz) (k : Zf r) : EvR G Γ e r v := fun ρ s => by
  obtain ⟨d, f, a, b⟩ := h ρ s
  refine ⟨d, ?_, b⟩
  rw [a, z _ _ _ a, k _ _ b]
theorem idx_fz {a b : E} {ρ : Rho} {d : D} {f : Bool} (h : ev G (.idx a b) ρ = some (d, f)) : f = d.fz := by
  rw [ev_idx] at h
  split at h
  · split at h
    · rename_i ds _
      cases hh : at? ds ‹Int› with
      | none => rw [hh] at h; cases h
      | some x => rw [hh] at h; cases h; rfl
    · cases h
  · cases h
theorem r_idx {K : SK} {a b : E} {r : Rl α} {xs : List α} {i : Int} {v : α} (ha : EvP G Γ a (rs K r) xs) (hb : EvP G Γ b rI i) (h : getI xs i = .ok v) (z : Zf r) : EvR G Γ (.idx a b) r v := (p_idx ha hb h).r (fun _ _ _ => idx_fz) z
/-- items at known places of unlike things -/
theorem p_it {a : E} {r0 : Rl α} {w : α} {r : Rl β} {v : β} {i : Int} (ha : EvP G Γ a r0 w) (k : ∀ d, r0 d w → ∃ ds x, seqD d = some ds ∧ at? ds i = some x ∧ r x v) : EvP G Γ (.idx a (.con (.int i))) r v := fun ρ s => by
  obtain ⟨d, f, e1, h1⟩ := ha ρ s
  obtain ⟨ds, x, h2, h3, h4⟩ := k d h1
  exact ⟨x, x.fz, by rw [ev_idx, e1, ev_con]; simp only [D.scal, if_true, h2, h3, Option.map_some], h4⟩
theorem r_it {a : E} {r0 : Rl α} {w : α} {r : Rl β} {v : β} {i : Int} (ha : EvP G Γ a r0 w) (k : ∀ d, r0 d w → ∃ ds x, seqD d = some ds ∧ at? ds i = some x ∧ r x v) (z : Zf r) : EvR G Γ (.idx a (.con (.int i))) r v := (p_it ha k).r (fun _ _ _ => idx_fz) z
theorem iP2_0 {r1 : Rl α} {r2 : Rl β} {w : α × β} : ∀ d, rP2 r1 r2 d w → ∃ ds x, seqD d = some ds ∧ at? ds 0 = some x ∧ r1 x w.1 := fun d ⟨d1, d2, e, h1, h2⟩ => by subst e; exact ⟨_, d1, rfl, rfl, h1⟩
theorem iP2_1 {r1 : Rl α} {r2 : Rl β} {w : α × β} : ∀ d, rP2 r1 r2 d w → ∃ ds x, seqD d = some ds ∧ at? ds 1 = some x ∧ r2 x w.2 := fun d ⟨d1, d2, e, h1, h2⟩ => by subst e; exact ⟨_, d2, rfl, rfl, h2⟩
theorem iP3_0 {r1 : Rl α} {r2 : Rl β} {r3 : Rl γ} {w : α × β × γ} : ∀ d, rP3 r1 r2 r3 d w → ∃ ds x, seqD d = some ds ∧ at? ds 0 = some x ∧ r1 x w.1 := fun d ⟨d1, d2, d3, e, h1, h2, h3⟩ => by subst e; exact ⟨_, d1, rfl, rfl, h1⟩
theorem iP3_1 {r1 : Rl α} {r2 : Rl β} {r3 : Rl γ} {w : α × β × γ} : ∀ d, rP3 r1 r2 r3 d w → ∃ ds x, seqD d = some ds ∧ at? ds 1 = some x ∧ r2 x w.2.1 := fun d ⟨d1, d2, d3, e, h1, h2, h3⟩ => by subst e; exact ⟨_, d2, rfl, rfl, h2⟩
theorem iP3_2 {r1 : Rl α} {r2 : Rl β} {r3 : Rl γ} {w : α × β × γ} : ∀ d, rP3 r1 r2 r3 d w → ∃ ds x, seqD d = some ds ∧ at? ds 2 = some x ∧ r3 x w.2.2 := fun d ⟨d1, d2, d3, e, h1, h2, h3⟩ => by subst e; exact ⟨_, d3, rfl, rfl, h3⟩
theorem iH2_0 {K : SK} {r1 : Rl α} {r2 : Rl β} {w : α × β} : ∀ d, rH2 K r1 r2 d w → ∃ ds x, seqD d = some ds ∧ at? ds 0 = some x ∧ r1 x w.1 := fun d ⟨_, d1, d2, e, h1, h2⟩ => ⟨_, d1, e, rfl, h1⟩
theorem iH2_1 {K : SK} {r1 : Rl α} {r2 : Rl β} {w : α × β} : ∀ d, rH2 K r1 r2 d w → ∃ ds x, seqD d = some ds ∧ at? ds 1 = some x ∧ r2 x w.2 := fun d ⟨_, d1, d2, e, h1, h2⟩ => ⟨_, d2, e, rfl, h2⟩
theorem iH3_0 {K : SK} {r1 : Rl α} {r2 : Rl β} {r3 : Rl γ} {w : α × β × γ} : ∀ d, rH3 K r1 r2 r3 d w → ∃ ds x, seqD d = some ds ∧ at? ds 0 = some x ∧ r1 x w.1 := fun d ⟨_, d1, d2, d3, e, h1, h2, h3⟩ => ⟨_, d1, e, rfl, h1⟩
theorem iH3_1 {K : SK} {r1 : Rl α} {r2 : Rl β} {r3 : Rl γ} {w : α × β × γ} : ∀ d, rH3 K r1 r2 r3 d w → ∃ ds x, seqD d = some ds ∧ at? ds 1 = some x ∧ r2 x w.2.1 := fun d ⟨_, d1, d2, d3, e, h1, h2, h3⟩ => ⟨_, d2, e, rfl, h2⟩
theorem iH3_2 {K : SK} {r1 : Rl α} {r2 : Rl β} {r3 : Rl γ} {w : α × β × γ} : ∀ d, rH3 K r1 r2 r3 d w → ∃ ds x, seqD d = some ds ∧ at? ds 2 = some x ∧ r3 x w.2.2 := fun d ⟨_, d1, d2, d3, e, h1, h2, h3⟩ => ⟨_, d3, e, rfl, h3⟩
theorem iH4_0 {K : SK} {r1 : Rl α} {r2 : Rl β} {r3 : Rl γ} {r4 : Rl δ} {w : α × β × γ × δ} : ∀ d, rH4 K r1 r2 r3 r4 d w → ∃ ds x, seqD d = some ds ∧ at? ds 0 = some x ∧ r1 x w.1 := fun d ⟨_, d1, d2, d3, d4, e, h1, h2, h3, h4⟩ => ⟨_, d1, e, rfl, h1⟩
theorem iH4_1 {K : SK} {r1 : Rl α} {r2 : Rl β} {r3 : Rl γ} {r4 : Rl δ} {w : α × β × γ × δ} : ∀ d, rH4 K r1 r2 r3 r4 d w → ∃ ds x, seqD d = some ds ∧ at? ds 1 = some x ∧ r2 x w.2.1 := fun d ⟨_, d1, d2, d3, d4, e, h1, h2, h3, h4⟩ => ⟨_, d2, e, rfl, h2⟩
theorem iH4_2 {K : SK} {r1 : Rl α} {r2 : Rl β} {r3 : Rl γ} {r4 : Rl δ} {w : α × β × γ × δ} : ∀ d, rH4 K r1 r2 r3 r4 d w → ∃ ds x, seqD d = some ds ∧ at? ds 2 = some x ∧ r3 x w.2.2.1 := fun d ⟨_, d1, d2, d3, d4, e, h1, h2, h3, h4⟩ => ⟨_, d3, e, rfl, h3⟩
theorem iH4_3 {K : SK} {r1 : Rl α} {r2 : Rl β} {r3 : Rl γ} {r4 : Rl δ} {w : α × β × γ × δ} : ∀ d, rH4 K r1 r2 r3 r4 d w → ∃ ds x, seqD d = some ds ∧ at? ds 3 = some x ∧ r4 x w.2.2.2 := fun d ⟨_, d1, d2, d3, d4, e, h1, h2, h3, h4⟩ => ⟨_, d4, e, rfl, h4⟩
/-- slices -/
def OpI (G : Gd) (Γ : Cx) (e : E) (o : Option Int) : Prop := ∀ ρ, Sat Γ ρ → optI e (ev G e ρ) = some o
theorem o_skip : OpI G Γ .skip none := fun ρ s => rfl
theorem o_int {e : E} {i : Int} (h : EvP G Γ e rI i) : OpI G Γ e (some i) := fun ρ s => by
  obtain ⟨d, f, e1, rfl⟩ := h ρ s
  rw [e1]
  cases e <;> first | rfl | (simp only [ev] at e1; cases e1)
theorem r_slT {a lo hi : E} {r : Rl α} {xs : List α} {l h : Option Int} (ha : EvP G Γ a (rs .T r) xs) (hl : OpI G Γ lo l) (hh : OpI G Γ hi h) : EvR G Γ (.sl a lo hi) (rs .T r) (slc xs l h) := fun ρ s => by
  obtain ⟨d, f, e1, h1, ds, h2, h3⟩ := ha ρ s
  cases d with
  | tup es =>
    cases h2
    refine ⟨.tup ((ds.drop (sIxD ds.length 0 l)).take (sIxD ds.length ds.length h - sIxD ds.length 0 l)), by rw [ev_sl, e1, hl ρ s, hh ρ s], trivial, _, rfl, ?_⟩
    unfold slc
    rw [← h3.len]
    exact h3.drop.take
  | lst m es => cases m <;> cases h1
  | _ => cases h2
theorem r_slL {K : SK} (hK : K = .W ∨ K = .F ∨ K = .A ∨ K = .R) {a lo hi : E} {r : Rl α} {xs : List α} {l h : Option Int} (ha : EvP G Γ a (rs K r) xs) (hl : OpI G Γ lo l) (hh : OpI G Γ hi h) (z : Zf r) : EvR G Γ (.sl a lo hi) (rs .W r) (slc xs l h) := fun ρ s => by
  obtain ⟨d, f, e1, h1, ds, h2, h3⟩ := ha ρ s
  cases d with
  | lst m es =>
    cases h2
    refine ⟨.lst .own ((ds.drop (sIxD ds.length 0 l)).take (sIxD ds.length ds.length h - sIxD ds.length 0 l)), by rw [ev_sl, e1, hl ρ s, hh ρ s]; simp only [h3.fz z, if_true], trivial, _, rfl, ?_⟩
    unfold slc
    rw [← h3.len]
    exact h3.drop.take
  | tup es => rcases hK with rfl | rfl | rfl | rfl <;> cases h1
  | _ => cases h2

/-! displays, arguments -/
def EvA (G : Gd) (Γ : Cx) (es : Es) (ps : List Pd) : Prop := ∀ ρ, Sat Γ ρ → ∃ ds, evs G es ρ = some (ds, true) ∧ All2 (fun d (p : Pd) => p d) ds ps
theorem a_nil : EvA G Γ .nil [] := fun ρ s => ⟨[], evs_nil, rfl⟩
theorem a_cons {e : E} {es : Es} {r : Rl α} {v : α} {p : Pd} {ps : List Pd} (h : EvR G Γ e r v) (hp : ∀ d, r d v → p d) (k : EvA G Γ es ps) : EvA G Γ (.cons e es) (p :: ps) := fun ρ s => by
  obtain ⟨d, e1, h1⟩ := h ρ s
  obtain ⟨ds, e2, h2⟩ := k ρ s
  exact ⟨d :: ds, by rw [evs_cons, e1, e2]; rfl, _, _, rfl, hp d h1, h2⟩
/-- of frozen arguments -/
def EvF (G : Gd) (Γ : Cx) (es : Es) (ps : List Pd) : Prop := ∀ ρ, Sat Γ ρ → ∃ ds, evs G es ρ = some (ds, true) ∧ All2 (fun d (p : Pd) => p d) (frzS ds) ps
theorem f_nil : EvF G Γ .nil [] := fun ρ s => ⟨[], evs_nil, rfl⟩
theorem f_cons {e : E} {es : Es} {r : Rl α} {v : α} {p : Pd} {ps : List Pd} (h : EvR G Γ e r v) (hp : ∀ d, r d v → p (frz d)) (k : EvF G Γ es ps) : EvF G Γ (.cons e es) (p :: ps) := fun ρ s => by
  obtain ⟨d, e1, h1⟩ := h ρ s
  obtain ⟨ds, e2, h2⟩ := k ρ s
  exact ⟨d :: ds, by rw [evs_cons, e1, e2]; rfl, _, _, rfl, hp d h1, h2⟩
theorem all2_len {ds : List D} {ps : List Pd} (h : All2 (fun d (p : Pd) => p d) ds ps) : ds.length = ps.length := h.len
theorem r_lst {es : Es} {ps : List Pd} {r : Rl α} {xs : List α} (h : EvA G Γ es ps) (hl : Nat.ble ps.length 1000 = true) (k : ∀ ds, All2 (fun d (p : Pd) => p d) ds ps → All2 r ds xs) : EvR G Γ (.lst es) (rs .W r) xs := fun ρ s => by
  obtain ⟨ds, e, h1⟩ := h ρ s
  refine ⟨.lst .own ds, ?_, trivial, ds, rfl, k ds h1⟩
  rw [ev_lst, e]
  show (if decide (ds.length ≤ most) = true then _ else _) = _
  rw [if_pos (decide_eq_true (by have := Nat.le_of_ble_eq_true hl; rw [all2_len h1]; unfold most; omega))]
theorem r_tupS {es : Es} {ps : List Pd} {r : Rl α} {xs : List α} (h : EvF G Γ es ps) (hl : Nat.ble ps.length 1000 = true) (k : ∀ ds, All2 (fun d (p : Pd) => p d) ds ps → All2 r ds xs) : EvR G Γ (.tup es) (rs .T r) xs := fun ρ s => by
  obtain ⟨ds, e, h1⟩ := h ρ s
  refine ⟨.tup (frzS ds), ?_, trivial, _, rfl, k _ h1⟩
  rw [ev_tup, e]
  show (if decide (ds.length ≤ most) = true then _ else _) = _
  have := all2_len h1
  rw [frzS_map, List.length_map] at this
  rw [if_pos (decide_eq_true (by have h' := Nat.le_of_ble_eq_true hl; rw [this]; unfold most; omega))]
theorem al_nil {r : Rl α} : ∀ ds, All2 (fun d (p : Pd) => p d) ds [] → All2 r ds [] := fun ds h => by
  cases ds with
  | nil => rfl
  | cons d r => obtain ⟨_, _, e, _⟩ := h; cases e
theorem al_cons {r : Rl α} {v : α} {ps : List Pd} {xs : List α} (k : ∀ ds, All2 (fun d (p : Pd) => p d) ds ps → All2 r ds xs) : ∀ ds, All2 (fun d (p : Pd) => p d) ds ((fun d => r d v) :: ps) → All2 r ds (v :: xs) := fun ds h => by
  cases ds with
  | nil => cases h
  | cons d ds => obtain ⟨p, qs, e, h1, h2⟩ := h; cases e; exact ⟨v, xs, rfl, h1, k ds h2⟩
theorem r_tupX {es : Es} {ps : List Pd} {r : Rl α} {v : α} (h : EvF G Γ es ps) (hl : Nat.ble ps.length 1000 = true) (k : ∀ ds, All2 (fun d (p : Pd) => p d) ds ps → r (.tup ds) v) : EvR G Γ (.tup es) r v := fun ρ s => by
  obtain ⟨ds, e, h1⟩ := h ρ s
  refine ⟨.tup (frzS ds), ?_, k _ h1⟩
  rw [ev_tup, e]
  show (if decide (ds.length ≤ most) = true then _ else _) = _
  have := all2_len h1
  rw [frzS_map, List.length_map] at this
  rw [if_pos (decide_eq_true (by have h' := Nat.le_of_ble_eq_true hl; rw [this]; unfold most; omega))]
theorem r_lstX {es : Es} {ps : List Pd} {r : Rl α} {v : α} (h : EvA G Γ es ps) (hl : Nat.ble ps.length 1000 = true) (k : ∀ ds, All2 (fun d (p : Pd) => p d) ds ps → r (.lst .own ds) v) : EvR G Γ (.lst es) r v := fun ρ s => by
  obtain ⟨ds, e, h1⟩ := h ρ s
  refine ⟨.lst .own ds, ?_, k ds h1⟩
  rw [ev_lst, e]
  show (if decide (ds.length ≤ most) = true then _ else _) = _
  rw [if_pos (decide_eq_true (by have := Nat.le_of_ble_eq_true hl; rw [all2_len h1]; unfold most; omega))]
theorem of2 {p1 p2 : Pd} {ds : List D} (h : All2 (fun d (p : Pd) => p d) ds [p1, p2]) : ∃ d1 d2, ds = [d1, d2] ∧ p1 d1 ∧ p2 d2 := by
  match ds, h with
  | [d1, d2], ⟨_, _, e1, h1, _, _, e2, h2, _⟩ => cases e1; cases e2; exact ⟨d1, d2, rfl, h1, h2⟩
  | [], h => cases h
  | [_], ⟨_, _, e, _, h⟩ => cases e; cases h
  | _ :: _ :: _ :: _, ⟨_, _, e1, _, _, _, e2, _, _, _, e3, _⟩ => cases e1; cases e2; cases e3
theorem of3 {p1 p2 p3 : Pd} {ds : List D} (h : All2 (fun d (p : Pd) => p d) ds [p1, p2, p3]) : ∃ d1 d2 d3, ds = [d1, d2, d3] ∧ p1 d1 ∧ p2 d2 ∧ p3 d3 := by
  cases ds with
  | nil => cases h
  | cons d1 r =>
    obtain ⟨_, _, e1, h1, h⟩ := h
    cases e1
    obtain ⟨d2, d3, rfl, h2, h3⟩ := of2 h
    exact ⟨d1, d2, d3, rfl, h1, h2, h3⟩
theorem of4 {p1 p2 p3 p4 : Pd} {ds : List D} (h : All2 (fun d (p : Pd) => p d) ds [p1, p2, p3, p4]) : ∃ d1 d2 d3 d4, ds = [d1, d2, d3, d4] ∧ p1 d1 ∧ p2 d2 ∧ p3 d3 ∧ p4 d4 := by
  cases ds with
  | nil => cases h
  | cons d1 r =>
    obtain ⟨_, _, e1, h1, h⟩ := h
    cases e1
    obtain ⟨d2, d3, d4, rfl, h2, h3, h4⟩ := of3 h
    exact ⟨d1, d2, d3, d4, rfl, h1, h2, h3, h4⟩
theorem x_P2 {r1 : Rl α} {r2 : Rl β} {v : α} {w : β} : ∀ ds, All2 (fun d (p : Pd) => p d) ds [fun d => r1 d v, fun d => r2 d w] → rP2 r1 r2 (.tup ds) (v, w) := fun ds h => by
  obtain ⟨d1, d2, rfl, h1, h2⟩ := of2 h
  exact ⟨d1, d2, rfl, h1, h2⟩
theorem x_P3 {r1 : Rl α} {r2 : Rl β} {r3 : Rl γ} {v : α} {w : β} {u : γ} : ∀ ds, All2 (fun d (p : Pd) => p d) ds [fun d => r1 d v, fun d => r2 d w, fun d => r3 d u] → rP3 r1 r2 r3 (.tup ds) (v, w, u) := fun ds h => by
  obtain ⟨d1, d2, d3, rfl, h1, h2, h3⟩ := of3 h
  exact ⟨d1, d2, d3, rfl, h1, h2, h3⟩
theorem x_P4 {r1 : Rl α} {r2 : Rl β} {r3 : Rl γ} {r4 : Rl δ} {v : α} {w : β} {u : γ} {z : δ} : ∀ ds, All2 (fun d (p : Pd) => p d) ds [fun d => r1 d v, fun d => r2 d w, fun d => r3 d u, fun d => r4 d z] → rP4 r1 r2 r3 r4 (.tup ds) (v, w, u, z) := fun ds h => by
  obtain ⟨d1, d2, d3, d4, rfl, h1, h2, h3, h4⟩ := of4 h
  exact ⟨d1, d2, d3, d4, rfl, h1, h2, h3, h4⟩
theorem x_H2 {r1 : Rl α} {r2 : Rl β} {v : α} {w : β} : ∀ ds, All2 (fun d (p : Pd) => p d) ds [fun d => r1 d v, fun d => r2 d w] → rH2 .W r1 r2 (.lst .own ds) (v, w) := fun ds h => by
  obtain ⟨d1, d2, rfl, h1, h2⟩ := of2 h
  exact ⟨trivial, d1, d2, rfl, h1, h2⟩
theorem x_H3 {r1 : Rl α} {r2 : Rl β} {r3 : Rl γ} {v : α} {w : β} {u : γ} : ∀ ds, All2 (fun d (p : Pd) => p d) ds [fun d => r1 d v, fun d => r2 d w, fun d => r3 d u] → rH3 .W r1 r2 r3 (.lst .own ds) (v, w, u) := fun ds h => by
  obtain ⟨d1, d2, d3, rfl, h1, h2, h3⟩ := of3 h
  exact ⟨trivial, d1, d2, d3, rfl, h1, h2, h3⟩
theorem x_H4 {r1 : Rl α} {r2 : Rl β} {r3 : Rl γ} {r4 : Rl δ} {v : α} {w : β} {u : γ} {z : δ} : ∀ ds, All2 (fun d (p : Pd) => p d) ds [fun d => r1 d v, fun d => r2 d w, fun d => r3 d u, fun d => r4 d z] → rH4 .W r1 r2 r3 r4 (.lst .own ds) (v, w, u, z) := fun ds h => by
  obtain ⟨d1, d2, d3, d4, rfl, h1, h2, h3, h4⟩ := of4 h
  exact ⟨trivial, d1, d2, d3, d4, rfl, h1, h2, h3, h4⟩

/-! calls -/
def CallOk (c : List D → Option D) (ps : List Pd) (m : P α) (r : Rl α) : Prop := ∀ ds, All2 (fun d (p : Pd) => p d) ds ps → ∀ v, m = .ok v → ∃ d, c ds = some d ∧ r d v
theorem all2_app {ds es : List D} {ps qs : List Pd} (h : All2 (fun d (p : Pd) => p d) ds ps) (k : All2 (fun d (p : Pd) => p d) es qs) : All2 (fun d (p : Pd) => p d) (ds ++ es) (ps ++ qs) := h.append k
theorem r_call {f : Nat} {es : Es} {dd : List D} {ps qs pq : List Pd} {m : P α} {r : Rl α} {v : α} (hc : CallOk (G.call f) pq m r) (ha : EvF G Γ es ps) (hm : m = .ok v) (hd : All2 (fun d (p : Pd) => p d) dd qs := by exact rfl) (hp : ps ++ qs = pq := by exact rfl) (hf : dd.all D.dfl = true := by rfl) : EvR G Γ (.call f es dd) r v := fun ρ s => by
  obtain ⟨ds, e, h1⟩ := ha ρ s
  subst hp
  obtain ⟨d, h2, h3⟩ := hc _ (all2_app h1 hd) v hm
  exact ⟨d, by rw [ev_call, e]; simp only [hf, if_true, h2, Option.map_some], h3⟩
theorem r_mk {f : Nat} {es : Es} {dd : List D} {ps qs pq : List Pd} {m : P α} {r : Rl α} {v : α} (hc : CallOk (G.new f) pq m r) (ha : EvF G Γ es ps) (hm : m = .ok v) (hd : All2 (fun d (p : Pd) => p d) dd qs := by exact rfl) (hp : ps ++ qs = pq := by exact rfl) (hf : dd.all D.dfl = true := by rfl) : EvR G Γ (.mk f es dd) r v := fun ρ s => by
  obtain ⟨ds, e, h1⟩ := ha ρ s
  subst hp
  obtain ⟨d, h2, h3⟩ := hc _ (all2_app h1 hd) v hm
  exact ⟨d, by rw [ev_mk, e]; simp only [hf, if_true, h2, Option.map_some], h3⟩
/-- objects of a class -/
def IsOb (c : Nat) (r : Rl α) : Prop := ∀ d v, r d v → ∃ ks ds, d = .obj none c ks ds
theorem r_meth {k c f : Nat} {a : E} {es : Es} {r0 : Rl β} {o : β} {ps : List Pd} {m : P α} {r : Rl α} {v : α} (hf : G.meth c k = some f) (ho : IsOb c r0) (ha : EvP G Γ a r0 o) (hc : CallOk (G.call f) ((fun d => r0 d o) :: ps) m r) (hs : EvF G Γ es ps) (hm : m = .ok v) : EvR G Γ (.meth k a es) r v := fun ρ s => by
  obtain ⟨d0, f0, e0, h0⟩ := ha ρ s
  obtain ⟨ks, fs, rfl⟩ := ho _ _ h0
  obtain ⟨ds, e, h1⟩ := hs ρ s
  obtain ⟨d, h2, h3⟩ := hc (.obj none c ks fs :: frzS ds) ⟨_, _, rfl, h0, h1⟩ v hm
  exact ⟨d, by rw [ev_meth_eq e0 e hf, h2]; rfl, h3⟩
where
  ev_meth_eq {ρ : Rho} {f0 : Bool} {ks : List Nat} {fs ds : List D} {c k f : Nat} {a : E} {es : Es} (e0 : ev G a ρ = some (.obj none c ks fs, f0)) (e : evs G es ρ = some (ds, true)) (hf : G.meth c k = some f) : ev G (.meth k a es) ρ = (G.call f (.obj none c ks fs :: frzS ds)).map (·, true) := by
    simp only [ev, e0, e, hf]
/-- operators of own classes -/
theorem r_binO {op : Operator} {c f : Nat} {a b : E} {r1 : Rl β} {r2 : Rl γ} {x : β} {y : γ} {m : P α} {r : Rl α} {v : α} (hs : G.spec c (.bin op) = some f) (h1 : IsOb c r1) (h2 : IsOb c r2) (ha : EvP G Γ a r1 x) (hb : EvP G Γ b r2 y) (hc : CallOk (G.call f) [fun d => r1 d x, fun d => r2 d y] m r) (hm : m = .ok v) : EvR G Γ (.bin op a b) r v := fun ρ s => by
  obtain ⟨d, _, e1, k1⟩ := ha ρ s
  obtain ⟨d', _, e2, k2⟩ := hb ρ s
  obtain ⟨ks, fs, rfl⟩ := h1 _ _ k1
  obtain ⟨ks', fs', rfl⟩ := h2 _ _ k2
  obtain ⟨w, h3, h4⟩ := hc [_, _] ⟨_, _, rfl, k1, _, _, rfl, k2, rfl⟩ v hm
  refine ⟨w, ?_, h4⟩
  rw [ev_bin, e1, e2]
  show (if c = c then callS G c (.bin op) _ else none).map _ = _
  rw [if_pos rfl]
  unfold callS
  rw [hs]
  show (G.call f _).map _ = _
  rw [h3]
  rfl
theorem r_eqO {c f : Nat} {a b : E} {r1 : Rl β} {r2 : Rl γ} {x : β} {y : γ} {m : P Bool} {v : Bool} (hs : G.spec c (.cmp .Eq) = some f) (h1 : IsOb c r1) (h2 : IsOb c r2) (ha : EvP G Γ a r1 x) (hb : EvP G Γ b r2 y) (hc : CallOk (G.call f) [fun d => r1 d x, fun d => r2 d y] m rB) (hm : m = .ok v) : EvR G Γ (.cmp .Eq a b) rB v := fun ρ s => by
  obtain ⟨d, _, e1, k1⟩ := ha ρ s
  obtain ⟨d', _, e2, k2⟩ := hb ρ s
  obtain ⟨ks, fs, rfl⟩ := h1 _ _ k1
  obtain ⟨ks', fs', rfl⟩ := h2 _ _ k2
  obtain ⟨w, h3, rfl⟩ := hc [_, _] ⟨_, _, rfl, k1, _, _, rfl, k2, rfl⟩ v hm
  refine ⟨.bl v, ?_, rfl⟩
  rw [ev_cmp, e1, e2]
  show (if c = c then blOf (callS G c (.cmp .Eq) _) else none).map _ = _
  rw [if_pos rfl]
  unfold callS
  rw [hs]
  show (blOf (G.call f _)).map _ = _
  rw [h3]
  rfl
theorem r_inO {c f : Nat} {a b : E} {r1 : Rl β} {r1' : Rl β} {r2 : Rl γ} {x : β} {y : γ} {m : P Bool} {v : Bool} (hs : G.spec c (.cmp .In) = some f) (h2 : IsOb c r2) (ha : EvP G Γ a r1 x) (hz : Zf r1) (hfr : Fr r1 r1') (hb : EvP G Γ b r2 y) (hc : CallOk (G.call f) [fun d => r2 d y, fun d => r1' d x] m rB) (hm : m = .ok v) : EvR G Γ (.cmp .In a b) rB v := fun ρ s => by
  obtain ⟨d, _, e1, k1⟩ := ha ρ s
  obtain ⟨d', _, e2, k2⟩ := hb ρ s
  obtain ⟨ks', fs', rfl⟩ := h2 _ _ k2
  obtain ⟨w, h3, rfl⟩ := hc [_, _] ⟨_, _, rfl, k2, _, _, rfl, hfr _ _ k1, rfl⟩ v hm
  refine ⟨.bl v, ?_, rfl⟩
  rw [ev_cmp, e1, e2]
  have e : cmpG G .In d (.obj none c ks' fs') = if d.fz then blOf (callS G c (.cmp .In) [.obj none c ks' fs', frz d]) else none := by
    cases d <;> first | rfl | (rename_i m _ _ _; cases m <;> rfl)
  show (cmpG G .In d (.obj none c ks' fs')).map _ = _
  rw [e, hz _ _ k1]
  unfold callS
  rw [hs]
  show (blOf (G.call f _)).map _ = _
  rw [h3]
  rfl
theorem r_ninO {c f : Nat} {a b : E} {r1 : Rl β} {r1' : Rl β} {r2 : Rl γ} {x : β} {y : γ} {m : P Bool} {v : Bool} (hs : G.spec c (.cmp .In) = some f) (h2 : IsOb c r2) (ha : EvP G Γ a r1 x) (hz : Zf r1) (hfr : Fr r1 r1') (hb : EvP G Γ b r2 y) (hc : CallOk (G.call f) [fun d => r2 d y, fun d => r1' d x] m rB) (hm : m = .ok v) : EvR G Γ (.cmp .NotIn a b) rB (!v) := fun ρ s => by
  obtain ⟨d, _, e1, k1⟩ := ha ρ s
  obtain ⟨d', _, e2, k2⟩ := hb ρ s
  obtain ⟨ks', fs', rfl⟩ := h2 _ _ k2
  obtain ⟨w, h3, rfl⟩ := hc [_, _] ⟨_, _, rfl, k2, _, _, rfl, hfr _ _ k1, rfl⟩ v hm
  refine ⟨.bl (!v), ?_, rfl⟩
  rw [ev_cmp, e1, e2]
  have e : cmpG G .NotIn d (.obj none c ks' fs') = if d.fz then (blOf (callS G c (.cmp .In) [.obj none c ks' fs', frz d])).map (!·) else none := by
    cases d <;> first | rfl | (rename_i m _ _ _; cases m <;> rfl)
  show (cmpG G .NotIn d (.obj none c ks' fs')).map _ = _
  rw [e, hz _ _ k1]
  unfold callS
  rw [hs]
  show ((blOf (G.call f _)).map _).map _ = _
  rw [h3]
  rfl
theorem r_lenO {c f : Nat} {a : E} {r1 : Rl β} {x : β} {m : P Int} {v : Int} (hs : G.spec c .len = some f) (h1 : IsOb c r1) (ha : EvP G Γ a r1 x) (hc : CallOk (G.call f) [fun d => r1 d x] m rI) (hm : m = .ok v) (hv : (decide (0 ≤ v) && decide (v < 2 ^ 63)) = true) : EvR G Γ (.blt .len (.cons a .nil)) rI v := fun ρ s => by
  obtain ⟨d, _, e1, k1⟩ := ha ρ s
  obtain ⟨ks, fs, rfl⟩ := h1 _ _ k1
  obtain ⟨w, h3, rfl⟩ := hc [_] ⟨_, _, rfl, k1, rfl⟩ v hm
  refine ⟨.int v, ?_, rfl⟩
  rw [ev_blt, evs_cons, e1, evs_nil]
  show (lnOf (callS G c .len _)).map _ = _
  unfold callS
  rw [hs]
  show (lnOf (G.call f _)).map _ = _
  rw [h3]
  show (if _ then _ else _ : Option D).map _ = _
  rw [if_pos hv]
  rfl

/-! built-in functions -/
theorem r_blt1 {b : Bn} {a : E} {r : Rl α} {x : α} {r' : Rl β} {y : β} (ha : EvP G Γ a r x) (k : ∀ d, r d x → ∃ d', bltG G b [d] = some d' ∧ r' d' y) : EvR G Γ (.blt b (.cons a .nil)) r' y := fun ρ s => by
  obtain ⟨d, f, e1, h1⟩ := ha ρ s
  obtain ⟨d', h2, h3⟩ := k d h1
  exact ⟨d', by rw [ev_blt, evs_cons, e1, evs_nil]; show (bltG G b [d]).map _ = _; rw [h2]; rfl, h3⟩
theorem r_len {K : SK} {a : E} {r : Rl α} {xs : List α} (ha : EvP G Γ a (rs K r) xs) : EvR G Γ (.blt .len (.cons a .nil)) rI (xs.length : Int) := r_blt1 ha fun d ⟨h1, ds, h2, h3⟩ => by
  cases d with
  | lst m es => cases h2; exact ⟨_, rfl, by rw [← h3.len]; rfl⟩
  | tup es => cases h2; exact ⟨_, rfl, by rw [← h3.len]; rfl⟩
  | _ => cases h2
theorem r_intI {a : E} {x : Int} (ha : EvP G Γ a rI x) : EvR G Γ (.blt .int (.cons a .nil)) rI x := r_blt1 ha fun d h => by cases (h : d = _); exact ⟨_, rfl, rfl⟩
theorem r_intB {a : E} {x : Bool} (ha : EvP G Γ a rB x) : EvR G Γ (.blt .int (.cons a .nil)) rI (b2i x) := r_blt1 ha fun d h => by cases (h : d = _); exact ⟨_, rfl, rfl⟩
theorem r_bool {a : E} {x : Int} (ha : EvP G Γ a rI x) : EvR G Γ (.blt .bool (.cons a .nil)) rB (x != 0) := r_blt1 ha fun d h => by cases (h : d = _); exact ⟨_, rfl, rfl⟩
theorem r_tuple {K : SK} {a : E} {r : Rl α} {xs : List α} (ha : EvP G Γ a (rs K r) xs) (z : Zf r) : EvR G Γ (.blt .tuple (.cons a .nil)) (rs .T r) xs := r_blt1 ha fun d ⟨h1, ds, h2, h3⟩ => by
  cases d with
  | lst m es => cases h2; exact ⟨.tup ds, by rw [tuple_l, h3.fz z]; rfl, trivial, _, rfl, h3⟩
  | tup es => cases h2; exact ⟨.tup ds, tuple_t, trivial, _, rfl, h3⟩
  | _ => cases h2
theorem r_list {K : SK} {a : E} {r : Rl α} {xs : List α} (ha : EvP G Γ a (rs K r) xs) (z : Zf r) : EvR G Γ (.blt .list (.cons a .nil)) (rs .W r) xs := r_blt1 ha fun d ⟨h1, ds, h2, h3⟩ => by
  cases d with
  | lst m es => cases h2; exact ⟨.lst .own ds, by rw [list_l, h3.fz z]; rfl, trivial, _, rfl, h3⟩
  | tup es => cases h2; exact ⟨.lst .own ds, by rw [list_t, h3.fz z]; rfl, trivial, _, rfl, h3⟩
  | _ => cases h2
theorem all2_ints : ∀ {ds : List D} {xs : List Int}, All2 rI ds xs → ds = xs.map D.int
  | [], xs, h => by cases (h : xs = []); rfl
  | d :: ds, xs, h => by obtain ⟨v, vs, rfl, h1, h2⟩ := h; cases (h1 : d = _); rw [all2_ints h2]; rfl
theorem ints_all2 : ∀ (xs : List Int), All2 rI (xs.map D.int) xs
  | [] => rfl
  | x :: xs => ⟨x, xs, rfl, rfl, ints_all2 xs⟩
theorem intsOf_map : ∀ xs : List Int, intsOf (xs.map D.int) = some xs
  | [] => rfl
  | x :: xs => by show (intsOf (xs.map D.int)).map _ = _; rw [intsOf_map xs]; rfl
theorem lstI_of {K : SK} (hK : K = .W ∨ K = .F ∨ K = .A ∨ K = .R) {d : D} {xs : List Int} (h : rs K rI d xs) : lstI d = some xs := by
  obtain ⟨h1, ds, h2, h3⟩ := h
  cases d with
  | lst m es => cases h2; rw [all2_ints h3]; exact intsOf_map xs
  | tup es => rcases hK with rfl | rfl | rfl | rfl <;> cases h1
  | _ => cases h2
theorem srt_eq : ∀ xs, Z.srtI xs = srtI xs
  | [] => rfl
  | x :: xs => by
    have e : ∀ i l, Z.insI i l = insI i l := fun i l => by induction l with
      | nil => rfl
      | cons y l ih => simp only [Z.insI, insI, ih]
    simp only [Z.srtI, srtI, srt_eq xs, e]
theorem max_eq : ∀ xs, Z.maxI xs = maxI xs
  | [] => rfl
  | [x] => rfl
  | x :: y :: r => by simp only [Z.maxI, maxI, max_eq (y :: r)]
theorem min_eq : ∀ xs, Z.minI xs = minI xs
  | [] => rfl
  | [x] => rfl
  | x :: y :: r => by simp only [Z.minI, minI, min_eq (y :: r)]
theorem r_sorted {K : SK} (hK : K = .W ∨ K = .F ∨ K = .A ∨ K = .R) {a : E} {xs : List Int} (ha : EvP G Γ a (rs K rI) xs) : EvR G Γ (.blt .sorted (.cons a .nil)) (rs .W rI) (srtI xs) := r_blt1 ha fun d h =>
  ⟨.lst .own ((srtI xs).map D.int), by show sortedD d = _; unfold sortedD; rw [lstI_of hK h, ← srt_eq]; rfl, trivial, _, rfl, ints_all2 _⟩
theorem r_max1 {K : SK} (hK : K = .W ∨ K = .F ∨ K = .A ∨ K = .R) {a : E} {xs : List Int} {x : Int} (ha : EvP G Γ a (rs K rI) xs) (h : opt (maxI xs) = .ok x) : EvR G Γ (.blt .max1 (.cons a .nil)) rI x := r_blt1 ha fun d h' => by
  refine ⟨.int x, ?_, rfl⟩
  show max1D d = _
  unfold max1D
  rw [lstI_of hK h', Option.bind_some, max_eq]
  cases e : maxI xs with
  | none => rw [e] at h; cases h
  | some y => rw [e] at h; cases h; rfl
theorem r_min1 {K : SK} (hK : K = .W ∨ K = .F ∨ K = .A ∨ K = .R) {a : E} {xs : List Int} {x : Int} (ha : EvP G Γ a (rs K rI) xs) (h : opt (minI xs) = .ok x) : EvR G Γ (.blt .min1 (.cons a .nil)) rI x := r_blt1 ha fun d h' => by
  refine ⟨.int x, ?_, rfl⟩
  show min1D d = _
  unfold min1D
  rw [lstI_of hK h', Option.bind_some, min_eq]
  cases e : minI xs with
  | none => rw [e] at h; cases h
  | some y => rw [e] at h; cases h; rfl
theorem r_maxN {K : SK} (hK : K = .W ∨ K = .F ∨ K = .A ∨ K = .R) {a : E} {xs : List Int} (ha : EvP G Γ a (rs K rI) xs) : EvR G Γ (.blt .maxN (.cons a .nil)) (rO rI) (maxI xs) := r_blt1 ha fun d h' => by
  refine ⟨match maxI xs with | some i => D.int i | none => D.non, by show maxND d = _; unfold maxND; rw [lstI_of hK h', ← max_eq]; rfl, ?_⟩
  cases maxI xs with
  | none => exact rfl
  | some y => exact ⟨rfl, rfl⟩
theorem r_sum {K : SK} (hK : K = .W ∨ K = .F ∨ K = .A ∨ K = .R) {a : E} {xs : List Int} (ha : EvP G Γ a (rs K rI) xs) : EvR G Γ (.blt .sum (.cons a .nil)) rI xs.sum := r_blt1 ha fun d h' => ⟨_, by show sumD d = _; unfold sumD; rw [lstI_of hK h']; rfl, rfl⟩
theorem r_abs {a : E} {x : Int} (ha : EvP G Γ a rI x) : EvR G Γ (.blt .abs (.cons a .nil)) rI (iabs x) := r_blt1 ha fun d h => by cases (h : d = _); exact ⟨_, rfl, rfl⟩
theorem r_bits {a : E} {x : Int} (ha : EvP G Γ a rI x) : EvR G Γ (.blt .bitlen (.cons a .nil)) rI (blen x) := r_blt1 ha fun d h => by cases (h : d = _); exact ⟨_, rfl, rfl⟩
theorem r_max2 {a b : E} {x y : Int} (ha : EvP G Γ a rI x) (hb : EvP G Γ b rI y) : EvR G Γ (.blt .max2 (.cons a (.cons b .nil))) rI (max2 x y) := fun ρ s => by
  obtain ⟨d, f, e1, rfl⟩ := ha ρ s
  obtain ⟨d', f', e2, rfl⟩ := hb ρ s
  exact ⟨_, by rw [ev_blt, evs_cons, evs_cons, e1, e2, evs_nil]; rfl, rfl⟩
theorem r_min2 {a b : E} {x y : Int} (ha : EvP G Γ a rI x) (hb : EvP G Γ b rI y) : EvR G Γ (.blt .min2 (.cons a (.cons b .nil))) rI (min2 x y) := fun ρ s => by
  obtain ⟨d, f, e1, rfl⟩ := ha ρ s
  obtain ⟨d', f', e2, rfl⟩ := hb ρ s
  exact ⟨_, by rw [ev_blt, evs_cons, evs_cons, e1, e2, evs_nil]; rfl, rfl⟩
theorem all2_pairs : ∀ {ds : List D} {xs : List (Int × Int)}, All2 (rP2 rI rI) ds xs → ds = xs.map dP
  | [], xs, h => by cases (h : xs = []); rfl
  | d :: ds, xs, h => by
    obtain ⟨v, vs, rfl, ⟨d1, d2, rfl, h1, h1'⟩, h2⟩ := h
    cases (h1 : d1 = _)
    cases (h1' : d2 = _)
    rw [all2_pairs h2]
    rfl
theorem pairs_all2 : ∀ xs : List (Int × Int), All2 (rP2 rI rI) (xs.map dP) xs
  | [] => rfl
  | x :: xs => ⟨x, xs, rfl, ⟨_, _, rfl, rfl, rfl⟩, pairs_all2 xs⟩
theorem pairsOf_map : ∀ xs : List (Int × Int), pairsOf (xs.map dP) = some xs
  | [] => rfl
  | x :: xs => by show (pairsOf (xs.map dP)).map _ = _; rw [pairsOf_map xs]; rfl
theorem srtP_eq : ∀ xs, Z.srtP xs = srtP xs
  | [] => rfl
  | x :: xs => by
    have e : ∀ i l, Z.insP i l = insP i l := fun i l => by induction l with
      | nil => rfl
      | cons y l ih => simp only [Z.insP, insP, ih]; rfl
    simp only [Z.srtP, srtP, srtP_eq xs, e]
theorem r_setsort {K : SK} (hK : K = .W ∨ K = .F ∨ K = .A ∨ K = .R) {a : E} {xs ys : List (Int × Int)} (ha : EvP G Γ a (rs K (rP2 rI rI)) xs) (h : setSort xs = .ok ys) : EvR G Γ (.blt .setsort (.cons a .nil)) (rs .W (rP2 rI rI)) ys := r_blt1 ha fun d ⟨h1, ds, h2, h3⟩ => by
  cases d with
  | lst m es =>
    cases h2
    obtain ⟨h4, rfl⟩ := of_ok h
    refine ⟨.lst .own ((srtP xs).map dP), ?_, trivial, _, rfl, pairs_all2 _⟩
    show (pairsOf ds).bind _ = _
    rw [all2_pairs h3, pairsOf_map, Option.bind_some, if_pos h4, srtP_eq]
  | tup es => rcases hK with rfl | rfl | rfl | rfl <;> cases h1
  | _ => cases h2
theorem r_isi {a : E} {r : Rl α} {x : α} {k : Is} {b : Bool} (ha : EvP G Γ a r x) (h : ∀ d, r d x → isiD d k = some b) : EvR G Γ (.isi a k) rB b := fun ρ s => by
  obtain ⟨d, f, e1, h1⟩ := ha ρ s
  exact ⟨.bl b, by rw [ev_isi, e1]; show (isiD d k).map _ = _; rw [h d h1]; rfl, rfl⟩
theorem i_Ii {x : Int} : ∀ d, rI d x → isiD d .int = some true := fun d h => by cases (h : d = _); rfl
theorem i_Ib {x : Int} : ∀ d, rI d x → isiD d .bool = some false := fun d h => by cases (h : d = _); rfl
theorem i_It {x : Int} : ∀ d, rI d x → isiD d .tuple = some false := fun d h => by cases (h : d = _); rfl
theorem i_Oi {o : Option Int} : ∀ d, rO rI d o → isiD d .int = some o.isSome := fun d h => by
  cases o with
  | none => cases (h : d = _); rfl
  | some v => cases (h.1 : d = _); rfl
theorem i_Ob {o : Option Int} : ∀ d, rO rI d o → isiD d .bool = some false := fun d h => by
  cases o with
  | none => cases (h : d = _); rfl
  | some v => cases (h.1 : d = _); rfl
theorem i_Tt {r : Rl α} {xs : List α} : ∀ d, rs .T r d xs → isiD d .tuple = some true := fun d ⟨h1, ds, h2, h3⟩ => by
  cases d with
  | tup es => rfl
  | lst m es => cases m <;> cases h1
  | _ => cases h2
theorem i_P2t {r1 : Rl α} {r2 : Rl β} {v : α × β} : ∀ d, rP2 r1 r2 d v → isiD d .tuple = some true := fun d ⟨d1, d2, e, _⟩ => by subst e; rfl
theorem i_cls {c : Nat} {r : Rl α} {x : α} (h : IsOb c r) : ∀ d, r d x → isiD d (.cls c) = some true := fun d hd => by
  obtain ⟨ks, ds, rfl⟩ := h _ _ hd
  show (if c = c then some true else none) = _
  rw [if_pos rfl]

/-! tests -/
def EvT (G : Gd) (Γ : Cx) (e : E) (b : Bool) : Prop := ∀ ρ, Sat Γ ρ → test G e ρ = some b
theorem t_B {e : E} {b : Bool} (h : EvP G Γ e rB b) : EvT G Γ e b := fun ρ s => by
  obtain ⟨d, f, e1, rfl⟩ := h ρ s
  unfold test
  rw [e1]
  rfl
theorem t_I {e : E} {i : Int} (h : EvP G Γ e rI i) : EvT G Γ e (i != 0) := fun ρ s => by
  obtain ⟨d, f, e1, rfl⟩ := h ρ s
  unfold test
  rw [e1]
  rfl
theorem t_s {K : SK} {e : E} {r : Rl α} {xs : List α} (h : EvP G Γ e (rs K r) xs) : EvT G Γ e (!xs.isEmpty) := fun ρ s => by
  obtain ⟨d, f, e1, h1, ds, h2, h3⟩ := h ρ s
  unfold test
  rw [e1]
  have hl := h3.len
  have e : ds.isEmpty = xs.isEmpty := by cases ds <;> cases xs <;> first | rfl | cases hl
  cases d with
  | lst m es => cases h2; show some (!ds.isEmpty) = _; rw [e]
  | tup es => cases h2; show some (!ds.isEmpty) = _; rw [e]
  | _ => cases h2

/-! iterators -/
def EvI (G : Gd) (Γ : Cx) (it : It) (r : Rl α) (xs : List α) : Prop := ∀ ρ, Sat Γ ρ → ∃ ds, evI G it ρ = some ds ∧ All2 r ds xs
theorem it_T {e : E} {r : Rl α} {xs : List α} (h : EvR G Γ e (rs .T r) xs) : EvI G Γ (.lst e) r xs := fun ρ s => by
  obtain ⟨d, e1, h1⟩ := h ρ s
  obtain ⟨_, ds, h2, h3⟩ := fr_T _ _ h1
  exact ⟨ds, by rw [evI_lst, e1]; exact h2, h3⟩
theorem fr_L {K : SK} (hK : K = .W ∨ K = .F ∨ K = .A) {r r' : Rl α} (k : Fr r r') : Fr (rs K r) (rs .F r') := by
  rcases hK with rfl | rfl | rfl
  · exact fr_W k
  · exact fr_F k
  · exact fr_A k
theorem it_L {K : SK} (hK : K = .W ∨ K = .F ∨ K = .A) {e : E} {r r' : Rl α} {xs : List α} (k : Fr r r') (h : EvR G Γ e (rs K r) xs) : EvI G Γ (.lst e) r' xs := fun ρ s => by
  obtain ⟨d, e1, h1⟩ := h ρ s
  obtain ⟨_, ds, h2, h3⟩ := fr_L hK k _ _ h1
  exact ⟨ds, by rw [evI_lst, e1]; exact h2, h3⟩
theorem it_Q {e : E} {r : Rl α} {xs : List α} (k : Fr r r) (h : EvR G Γ e (rs .Q r) xs) : EvI G Γ (.lst e) r xs := fun ρ s => by
  obtain ⟨d, e1, h1⟩ := h ρ s
  obtain ⟨_, ds, h2, h3⟩ := fr_Q k _ _ h1
  exact ⟨ds, by rw [evI_lst, e1]; exact h2, h3⟩
theorem it_R {e : E} {r : Rl α} {xs : List α} (k : Fr r r) (h : EvR G Γ e (rs .R r) xs) : EvI G Γ (.lst e) r xs := fun ρ s => by
  obtain ⟨d, e1, h1⟩ := h ρ s
  obtain ⟨_, ds, h2, h3⟩ := fr_R k _ _ h1
  exact ⟨ds, by rw [evI_lst, e1]; exact h2, h3⟩
theorem rngD_all2 (lo : Int) (n : Nat) : All2 rI (rngD lo n) (rangeI lo n) := by
  rw [rngD_map]
  unfold rangeI
  have := ints_all2 ((List.range n).map fun k : Nat => lo + (k : Int))
  rw [List.map_map] at this
  exact this
theorem it_r1 {e : E} {j : Int} {xs : List Int} (h : EvP G Γ e rI j) (hr : rng0 j = .ok xs) : EvI G Γ (.rng1 e) rI xs := fun ρ s => by
  obtain ⟨d, f, e1, rfl⟩ := h ρ s
  obtain ⟨h1, rfl⟩ := of_ok hr
  refine ⟨rngD 0 j.toNat, by rw [evI_r1, e1]; show (if Z.rngOk 0 j then _ else _) = _; rw [if_pos (show Z.rngOk 0 j = true from h1)], ?_⟩
  have := rngD_all2 0 j.toNat
  have e : rangeI 0 j.toNat = (List.range j.toNat).map fun k : Nat => (k : Int) := List.map_congr_left fun k _ => by omega
  rw [e] at this
  exact this
theorem it_r2 {a b : E} {i j : Int} {xs : List Int} (ha : EvP G Γ a rI i) (hb : EvP G Γ b rI j) (hr : rng i j = .ok xs) : EvI G Γ (.rng2 a b) rI xs := fun ρ s => by
  obtain ⟨d, f, e1, rfl⟩ := ha ρ s
  obtain ⟨d', f', e2, rfl⟩ := hb ρ s
  obtain ⟨h1, rfl⟩ := of_ok hr
  exact ⟨_, by rw [evI_r2, e1, e2]; show (if Z.rngOk i j then _ else _) = _; rw [if_pos (show Z.rngOk i j = true from h1)], rngD_all2 _ _⟩
theorem it_down {a b c : E} {i j : Int} {xs : List Int} (ha : EvP G Γ a rI i) (hb : EvP G Γ b rI j) (hc : EvP G Γ c rI (-1)) (hr : rngDown i j = .ok xs) : EvI G Γ (.down a b c) rI xs := fun ρ s => by
  obtain ⟨d, f, e1, rfl⟩ := ha ρ s
  obtain ⟨d', f', e2, rfl⟩ := hb ρ s
  obtain ⟨d'', f'', e3, rfl⟩ := hc ρ s
  obtain ⟨h1, rfl⟩ := of_ok hr
  exact ⟨_, by rw [evI_down, e1, e2, e3]; show (if Z.rngOk i j && decide ((-1 : Int) = -1) then _ else _) = _; rw [show Z.rngOk i j = true from h1]; rfl, (rngD_all2 _ _).reverse⟩
theorem enum_all2 {r : Rl α} : ∀ {ds : List D} {xs : List α} (i : Int), All2 r ds xs → All2 (rP2 rI r) (enumD i ds) (enumI i xs)
  | [], xs, i, h => by cases (h : xs = []); rfl
  | d :: ds, xs, i, h => by obtain ⟨v, vs, rfl, h1, h2⟩ := h; exact ⟨(i, v), enumI (i + 1) vs, rfl, ⟨_, _, rfl, rfl, h1⟩, enum_all2 (i + 1) h2⟩
theorem it_enum {e : E} {r : Rl α} {xs : List α} (h : EvI G Γ (.lst e) r xs) : EvI G Γ (.enum e) (rP2 rI r) (enumI 0 xs) := fun ρ s => by
  obtain ⟨ds, e1, h1⟩ := h ρ s
  refine ⟨enumD 0 ds, ?_, enum_all2 0 h1⟩
  rw [evI_lst] at e1
  rw [evI_enum]
  split at e1
  · rw [e1]; rfl
  · cases e1
theorem zip_all2 {r : Rl α} {r' : Rl β} : ∀ {ds es : List D} {xs : List α} {ys : List β}, All2 r ds xs → All2 r' es ys → All2 (rP2 r r') (zipD ds es) (xs.zip ys)
  | [], es, xs, ys, h, k => by cases (h : xs = []); rfl
  | d :: ds, [], xs, ys, h, k => by cases (k : ys = []); rw [List.zip_nil_right]; rfl
  | d :: ds, e :: es, xs, ys, h, k => by
    obtain ⟨v, vs, rfl, h1, h2⟩ := h
    obtain ⟨w, ws, rfl, k1, k2⟩ := k
    exact ⟨(v, w), vs.zip ws, rfl, ⟨_, _, rfl, h1, k1⟩, zip_all2 h2 k2⟩
theorem it_zip {a b : E} {r : Rl α} {xs : List α} {r' : Rl β} {ys : List β} (h : EvI G Γ (.lst a) r xs) (k : EvI G Γ (.lst b) r' ys) : EvI G Γ (.zip a b) (rP2 r r') (xs.zip ys) := fun ρ s => by
  obtain ⟨ds, e1, h1⟩ := h ρ s
  obtain ⟨es, e2, h2⟩ := k ρ s
  refine ⟨zipD ds es, ?_, zip_all2 h1 h2⟩
  rw [evI_lst] at e1 e2
  rw [evI_zip]
  split at e1
  · rename_i x hx
    split at e2
    · rename_i y hy
      simp only [hx, hy, e1, e2]
    · cases e2
  · cases e1

/-! targets -/
def Bd (Γ : Cx) (tg : Tg) (r : Rl α) (v : α) (Γ' : Cx) : Prop := ∀ ρ d, Sat Γ ρ → r d v → ∃ ρ', bindT tg d ρ = some ρ' ∧ Sat Γ' ρ'
theorem b_name {i : Nat} {r : Rl α} {v : α} : Bd Γ (.name i) r v (Γ.set i (some fun d => r d v)) := fun ρ d s h => ⟨_, rfl, s.set h i⟩
theorem b_P2 {t1 t2 : Tg} {r1 : Rl α} {r2 : Rl β} {v : α × β} {Γ2 Γ3 : Cx} (h1 : Bd Γ t1 r1 v.1 Γ2) (h2 : Bd Γ2 t2 r2 v.2 Γ3) : Bd Γ (.tup [t1, t2]) (rP2 r1 r2) v Γ3 := fun ρ d s h => by
  obtain ⟨d1, d2, rfl, k1, k2⟩ := h
  obtain ⟨ρ1, e1, s1⟩ := h1 ρ d1 s k1
  obtain ⟨ρ2, e2, s2⟩ := h2 ρ1 d2 s1 k2
  exact ⟨ρ2, by simp only [bindT, bindTs, e1, e2, Option.bind_some], s2⟩
theorem b_P3 {t1 t2 t3 : Tg} {r1 : Rl α} {r2 : Rl β} {r3 : Rl γ} {v : α × β × γ} {Γ2 Γ3 Γ4 : Cx} (h1 : Bd Γ t1 r1 v.1 Γ2) (h2 : Bd Γ2 t2 r2 v.2.1 Γ3) (h3 : Bd Γ3 t3 r3 v.2.2 Γ4) : Bd Γ (.tup [t1, t2, t3]) (rP3 r1 r2 r3) v Γ4 := fun ρ d s h => by
  obtain ⟨d1, d2, d3, rfl, k1, k2, k3⟩ := h
  obtain ⟨ρ1, e1, s1⟩ := h1 ρ d1 s k1
  obtain ⟨ρ2, e2, s2⟩ := h2 ρ1 d2 s1 k2
  obtain ⟨ρ3, e3, s3⟩ := h3 ρ2 d3 s2 k3
  exact ⟨ρ3, by simp only [bindT, bindTs, e1, e2, e3, Option.bind_some], s3⟩
theorem b_P4 {t1 t2 t3 t4 : Tg} {r1 : Rl α} {r2 : Rl β} {r3 : Rl γ} {r4 : Rl δ} {v : α × β × γ × δ} {Γ2 Γ3 Γ4 Γ5 : Cx} (h1 : Bd Γ t1 r1 v.1 Γ2) (h2 : Bd Γ2 t2 r2 v.2.1 Γ3) (h3 : Bd Γ3 t3 r3 v.2.2.1 Γ4) (h4 : Bd Γ4 t4 r4 v.2.2.2 Γ5) : Bd Γ (.tup [t1, t2, t3, t4]) (rP4 r1 r2 r3 r4) v Γ5 := fun ρ d s h => by
  obtain ⟨d1, d2, d3, d4, rfl, k1, k2, k3, k4⟩ := h
  obtain ⟨ρ1, e1, s1⟩ := h1 ρ d1 s k1
  obtain ⟨ρ2, e2, s2⟩ := h2 ρ1 d2 s1 k2
  obtain ⟨ρ3, e3, s3⟩ := h3 ρ2 d3 s2 k3
  obtain ⟨ρ4, e4, s4⟩ := h4 ρ3 d4 s3 k4
  exact ⟨ρ4, by simp only [bindT, bindTs, e1, e2, e3, e4, Option.bind_some], s4⟩

/-! comprehensions -/
def wipeC (Γ : Cx) : List Nat → Cx
  | [] => Γ
  | v :: vs => (wipeC Γ vs).set v none
theorem Sat.wipe {Γ : Cx} {ρ : Rho} (s : Sat Γ ρ) : ∀ vs : List Nat, Sat (wipeC Γ vs) (wipeR ρ vs)
  | [] => s
  | v :: vs => (s.wipe vs).unset v none
theorem lc_all {vs : List Nat} {elt : E} {tg : Tg} {it : It} {ifs : Es} {r : Rl α} {xs : List α} {r' : Rl β} (f : α → P (Option β)) {ys : List β} (hit : EvI G Γ it r xs)
    (hl : xs.length ≤ 40000) (hf : compP f xs = .ok ys) (hb : ∀ x o, f x = .ok o → ∀ ρ, Sat Γ ρ → ∀ d, r d x → ∃ o', Z.lcF G vs elt tg ifs ρ d = some o' ∧ match o, o' with | none, none => True | some y, some d' => r' d' y | _, _ => False) : EvR G Γ (.lc vs elt tg it ifs) (rs .W r') ys := fun ρ s => by
  obtain ⟨ds, e1, h1⟩ := hit ρ s
  have go : ∀ {xs : List α} {ds : List D} {ys : List β}, All2 r ds xs → compP f xs = .ok ys → ∃ es, compD (Z.lcF G vs elt tg ifs ρ) ds = some es ∧ All2 r' es ys := by
    intro xs
    induction xs with
    | nil =>
      intro ds ys h e
      cases ds with
      | nil => cases e; exact ⟨[], rfl, rfl⟩
      | cons d r => obtain ⟨_, _, e, _⟩ := h; cases e
    | cons x xs ih =>
      intro ds ys h e
      cases ds with
      | nil => cases h
      | cons d ds =>
        obtain ⟨_, _, e', k1, k2⟩ := h
        cases e'
        obtain ⟨o, ho, e⟩ := P.bind_ok e
        obtain ⟨zs, hz, e⟩ := P.bind_ok e
        obtain ⟨es, q1, q2⟩ := ih k2 hz
        obtain ⟨o', q3, q4⟩ := hb x o ho ρ s d k1
        cases o with
        | none => cases o' with
          | none => cases e; exact ⟨es, by simp only [compD, q3, q1], q2⟩
          | some d' => exact q4.elim
        | some y => cases o' with
          | none => exact q4.elim
          | some d' => cases e; exact ⟨d' :: es, by simp only [compD, q3, q1], _, _, rfl, q4, q2⟩
  obtain ⟨es, e2, h2⟩ := go h1 hf
  exact ⟨_, ev_lc e1 (by rw [h1.len]; exact hl) e2, trivial, _, rfl, h2⟩
theorem compP_map (g : α → β) : ∀ xs : List α, compP (fun x => P.ok (some (g x))) xs = .ok (xs.map g)
  | [] => rfl
  | x :: xs => by simp only [compP, P.ok_bind, compP_map g xs, List.map_cons]
theorem compP_sel (c : α → Bool) (g : α → β) : ∀ xs : List α, compP (fun x => P.ok (if c x then some (g x) else none)) xs = .ok ((xs.filter c).map g)
  | [] => rfl
  | x :: xs => by
    simp only [compP, P.ok_bind, compP_sel c g xs, List.filter_cons]
    cases c x <;> rfl
theorem r_lcM {vs : List Nat} {elt : E} {tg : Tg} {it : It} {r : Rl α} {xs : List α} {r' : Rl β} {g : α → β} {ys : List β} {Γb : α → Cx} (hit : EvI G Γ it r xs) (hb : ∀ x, Bd (wipeC Γ vs) tg r x (Γb x)) (he : ∀ x, EvR G (Γb x) elt r' (g x)) (h : lcM g xs = .ok ys) : EvR G Γ (.lc vs elt tg it .nil) (rs .W r') ys := by
  obtain ⟨h1, rfl⟩ := of_okp h
  refine lc_all (fun x => .ok (some (g x))) hit h1 (compP_map g xs) fun x o ho ρ s d hd => ?_
  cases ho
  obtain ⟨ρ', e1, s1⟩ := hb x _ d (s.wipe vs) hd
  obtain ⟨d', e2, h2⟩ := he x ρ' s1
  exact ⟨some d', lcF_yes e1 evT_nil e2, h2⟩
theorem r_lcF {vs : List Nat} {elt c : E} {tg : Tg} {it : It} {r : Rl α} {xs : List α} {r' : Rl β} {g : α → β} {ct : α → Bool} {ys : List β} {Γb : α → Cx} (hit : EvI G Γ it r xs) (hb : ∀ x, Bd (wipeC Γ vs) tg r x (Γb x)) (hc : ∀ x, EvT G (Γb x) c (ct x)) (he : ∀ x, EvR G (Γb x) elt r' (g x)) (h : lcF ct g xs = .ok ys) : EvR G Γ (.lc vs elt tg it (.cons c .nil)) (rs .W r') ys := by
  obtain ⟨h1, rfl⟩ := of_okp h
  refine lc_all (fun x => .ok (if ct x then some (g x) else none)) hit h1 (compP_sel ct g xs) fun x o ho ρ s d hd => ?_
  cases ho
  obtain ⟨ρ', e1, s1⟩ := hb x _ d (s.wipe vs) hd
  have e3 := hc x ρ' s1
  rw [← evT_one] at e3
  cases hx : ct x with
  | false => rw [hx] at e3; exact ⟨none, lcF_no e1 e3, trivial⟩
  | true =>
    rw [hx] at e3
    obtain ⟨d', e2, h2⟩ := he x ρ' s1
    exact ⟨some d', lcF_yes e1 e3 e2, h2⟩
theorem r_lcP {vs : List Nat} {elt : E} {tg : Tg} {it : It} {r : Rl α} {xs : List α} {r' : Rl β} {f : α → P β} {ys : List β} {Γb : α → Cx} (hit : EvI G Γ it r xs) (hb : ∀ x, Bd (wipeC Γ vs) tg r x (Γb x)) (he : ∀ x y, f x = .ok y → EvR G (Γb x) elt r' y) (h : lcP (fun x => (f x).bind fun y => .ok (some y)) xs = .ok ys) : EvR G Γ (.lc vs elt tg it .nil) (rs .W r') ys := by
  by_cases h1 : xs.length ≤ 40000
  · unfold lcP at h
    rw [if_pos h1] at h
    refine lc_all _ hit h1 h fun x o ho ρ s d hd => ?_
    obtain ⟨y, hy, e⟩ := P.bind_ok ho
    cases e
    obtain ⟨ρ', e1, s1⟩ := hb x _ d (s.wipe vs) hd
    obtain ⟨d', e2, h2⟩ := he x y hy ρ' s1
    exact ⟨some d', lcF_yes e1 evT_nil e2, h2⟩
  · unfold lcP at h
    rw [if_neg h1] at h
    cases h
theorem r_lcPF {vs : List Nat} {elt c : E} {tg : Tg} {it : It} {r : Rl α} {xs : List α} {r' : Rl β} {f : α → P β} {ct : α → P Bool} {ys : List β} {Γb : α → Cx} (hit : EvI G Γ it r xs) (hb : ∀ x, Bd (wipeC Γ vs) tg r x (Γb x)) (hc : ∀ x b, ct x = .ok b → EvT G (Γb x) c b) (he : ∀ x y, f x = .ok y → EvR G (Γb x) elt r' y)
    (h : lcP (fun x => (ct x).bind fun b => if b then (f x).bind fun y => .ok (some y) else .ok none) xs = .ok ys) : EvR G Γ (.lc vs elt tg it (.cons c .nil)) (rs .W r') ys := by
  by_cases h1 : xs.length ≤ 40000
  · unfold lcP at h
    rw [if_pos h1] at h
    refine lc_all _ hit h1 h fun x o ho ρ s d hd => ?_
    obtain ⟨b, hb', e⟩ := P.bind_ok ho
    obtain ⟨ρ', e1, s1⟩ := hb x _ d (s.wipe vs) hd
    have e3 := hc x b hb' ρ' s1
    rw [← evT_one] at e3
    cases b with
    | false => cases e; exact ⟨none, lcF_no e1 e3, trivial⟩
    | true =>
      obtain ⟨y, hy, e⟩ := P.bind_ok e
      cases e
      obtain ⟨d', e2, h2⟩ := he x y hy ρ' s1
      exact ⟨some d', lcF_yes e1 e3 e2, h2⟩
  · unfold lcP at h
    rw [if_neg h1] at h
    cases h
/-- fields -/
theorem p_fld {k : Nat} {a : E} {r0 : Rl α} {o : α} {r : Rl β} {v : β} (ha : EvP G Γ a r0 o) (h : ∀ d, r0 d o → ∃ m c ks ds x, d = .obj m c ks ds ∧ getF k ks ds = some x ∧ r x v) : EvP G Γ (.fld a k) r v := fun ρ s => by
  obtain ⟨d, f, e1, h1⟩ := ha ρ s
  obtain ⟨m, c, ks, ds, x, rfl, h2, h3⟩ := h d h1
  exact ⟨x, x.fz, by rw [ev_fld, e1]; show (getF k ks ds).map _ = _; rw [h2]; rfl, h3⟩
theorem fld_fz {a : E} {k : Nat} {ρ : Rho} {d : D} {f : Bool} (h : ev G (.fld a k) ρ = some (d, f)) : f = d.fz := by
  rw [ev_fld] at h
  split at h
  · rename_i ks ds _
    cases hh : getF k ‹List Nat› ‹List D› with
    | none => rw [hh] at h; cases h
    | some x => rw [hh] at h; cases h; rfl
  · cases h
theorem r_fld {k : Nat} {a : E} {r0 : Rl α} {o : α} {r : Rl β} {v : β} (ha : EvP G Γ a r0 o) (h : ∀ d, r0 d o → ∃ m c ks ds x, d = .obj m c ks ds ∧ getF k ks ds = some x ∧ r x v) (z : Zf r) : EvR G Γ (.fld a k) r v := (p_fld ha h).r (fun _ _ _ => fld_fz) z
end
end Y

/-! Y3: statements, defs. -/
namespace Y
open PySem Z
section
variable {G : Gd} {Γ Γ1 : Cx} {α β γ δ σ ι : Type}
abbrev Pc (β : Type) := β → Out → Prop
def RunR (G : Gd) (b : Ss) (Γ : Cx) (m : P β) (Φ : Pc β) : Prop := ∀ ρ, Sat Γ ρ → ∀ o, m = .ok o → ∃ out, runs G b ρ = some out ∧ Φ o out
/-- falls through -/
def NxP (Γs : σ → Cx) : Pc σ := fun s out => match out with
  | .nx ρ => Sat (Γs s) ρ
  | _ => False
/-- ends otherwise -/
def TeP (Φ : Pc β) : Pc β := fun o out => match out with
  | .nx _ => False
  | .rt d => Φ o (.rt d)
  | .bk ρ => Φ o (.bk ρ)
  | .ct ρ => Φ o (.ct ρ)
/-- one of both -/
def SxP (Γs : σ → Cx) (Φ : Pc β) : Pc (Sum σ β) := fun o out => match o, out with
  | .inl s, .nx ρ => Sat (Γs s) ρ
  | .inl _, _ => False
  | .inr _, .nx _ => False
  | .inr o, .rt d => Φ o (.rt d)
  | .inr o, .bk ρ => Φ o (.bk ρ)
  | .inr o, .ct ρ => Φ o (.ct ρ)
/-- a def's end -/
def RetP (r : Rl α) : Pc α := fun v out => match out with
  | .nx _ => r .non v
  | .rt d => r d v
  | _ => False
/-- a round's end, in a loop that is not left -/
def FoldP (Γs : σ → Cx) : Pc σ := fun s out => match out with
  | .nx ρ => Sat (Γs s) ρ
  | .ct ρ => Sat (Γs s) ρ
  | _ => False
/-- a round's end -/
def CtlP (Γs : σ → Cx) (Φ : β → D → Prop) : Pc (Ctl σ β) := fun o out => match o, out with
  | .nx s, .nx ρ => Sat (Γs s) ρ
  | .nx s, .ct ρ => Sat (Γs s) ρ
  | .bk s, .bk ρ => Sat (Γs s) ρ
  | .rt o, .rt d => Φ o d
  | _, _ => False

theorem run_nil {o : β} {Φ : Pc β} (h : ∀ ρ, Sat Γ ρ → Φ o (.nx ρ)) : RunR G .nil Γ (.ok o) Φ := fun ρ s o' e => by
  cases e; exact ⟨.nx ρ, runs_nil, h ρ s⟩
theorem run_ex {b : Ss} {e : Exn} {Φ : Pc β} : RunR G b Γ (.ex e) Φ := fun ρ s o h => nomatch h
theorem run_no {b : Ss} {Φ : Pc β} : RunR G b Γ .no Φ := fun ρ s o h => nomatch h
theorem run_bind {b : Ss} {m : P α} {f : α → P β} {Φ : Pc β} (h : ∀ x, m = .ok x → RunR G b Γ (f x) Φ) : RunR G b Γ (m.bind f) Φ := fun ρ s o e => by
  obtain ⟨x, hx, e⟩ := P.bind_ok e
  exact h x hx ρ s o e
theorem run_let {b : Ss} {v : α} {f : α → P β} {Φ : Pc β} (h : ∀ x, x = v → RunR G b Γ (f x) Φ) : RunR G b Γ ((P.ok v).bind f) Φ := h v rfl
theorem run_wk {b : Ss} {m : P β} {Φ : Pc β} (w : Wk Γ Γ1) (h : RunR G b Γ1 m Φ) : RunR G b Γ m Φ := fun ρ s => h ρ (w ρ s)
theorem run_eq {b : Ss} {m m' : P β} {Φ : Pc β} (e : m = m') (h : RunR G b Γ m' Φ) : RunR G b Γ m Φ := by subst e; exact h
theorem runs_s {s : S} {r : Ss} {ρ ρ' : Rho} (h : run1 G s ρ = some (.nx ρ')) : runs G (.cons s r) ρ = runs G r ρ' := by simp only [runs, h]

theorem run_asg {tg : Tg} {e : E} {r : Ss} {ks : List Nat} {R : Rl α} {v : α} {m : P β} {Φ : Pc β} {Γ2 : Cx} (hk : kept e = ks) (fz : Fz Γ ks Γ1) (he : EvR G Γ1 e R v) (hb : Bd Γ1 tg R v Γ2) (k : RunR G r Γ2 m Φ) : RunR G (.cons (.asg tg e) r) Γ m Φ := fun ρ s o ho => by
  subst hk
  obtain ⟨d, e1, h1⟩ := he _ (fz ρ s)
  obtain ⟨ρ2, e2, s2⟩ := hb _ d (fz ρ s) h1
  obtain ⟨out, e3, h3⟩ := k ρ2 s2 o ho
  exact ⟨out, by rw [runs_s (run1_asg rfl e1 e2)]; exact e3, h3⟩
theorem run_asgB {tg : Tg} {e : E} {r : Ss} {ks : List Nat} {R : Rl α} {v : α} {f : α → P β} {Φ : Pc β} {Γ2 : α → Cx} (hk : kept e = ks) (fz : Fz Γ ks Γ1) (he : EvR G Γ1 e R v) (hb : ∀ x, Bd Γ1 tg R x (Γ2 x)) (k : ∀ x, RunR G r (Γ2 x) (f x) Φ) : RunR G (.cons (.asg tg e) r) Γ ((P.ok v).bind f) Φ := run_asg hk fz he (hb v) (k v)
theorem run_ret {e : E} {r : Ss} {ks : List Nat} {R : Rl α} {v : α} {o : β} {Φ : Pc β} (hk : kept e = ks) (fz : Fz Γ ks Γ1) (he : EvR G Γ1 e R v) (h : ∀ d, R d v → Φ o (.rt d)) : RunR G (.cons (.ret e) r) Γ (.ok o) Φ := fun ρ s o' ho => by
  subst hk
  cases ho
  obtain ⟨d, e1, h1⟩ := he _ (fz ρ s)
  exact ⟨.rt d, runs_rt (run1_ret rfl e1), h d h1⟩
theorem run_retN {r : Ss} {o : β} {Φ : Pc β} (h : Φ o (.rt .non)) : RunR G (.cons .retN r) Γ (.ok o) Φ := fun ρ s o' ho => by
  cases ho
  exact ⟨.rt .non, by simp only [runs, run1], h⟩
theorem run_pass {r : Ss} {m : P β} {Φ : Pc β} (k : RunR G r Γ m Φ) : RunR G (.cons .pass r) Γ m Φ := fun ρ s o ho => by
  obtain ⟨out, e, h⟩ := k ρ s o ho
  exact ⟨out, by simp only [runs, run1]; exact e, h⟩
theorem run_brk {r : Ss} {o : β} {Φ : Pc β} (h : ∀ ρ, Sat Γ ρ → Φ o (.bk ρ)) : RunR G (.cons .brk r) Γ (.ok o) Φ := fun ρ s o' ho => by
  cases ho
  exact ⟨.bk ρ, by simp only [runs, run1], h ρ s⟩
theorem run_cont {r : Ss} {o : β} {Φ : Pc β} (h : ∀ ρ, Sat Γ ρ → Φ o (.ct ρ)) : RunR G (.cons .cont r) Γ (.ok o) Φ := fun ρ s o' ho => by
  cases ho
  exact ⟨.ct ρ, by simp only [runs, run1], h ρ s⟩
theorem run_drop {e : E} {r : Ss} {ks : List Nat} {R : Rl α} {v : α} {m : P β} {Φ : Pc β} (hk : kept e = ks) (fz : Fz Γ ks Γ1) (he : EvP G Γ1 e R v) (k : RunR G r Γ1 m Φ) : RunR G (.cons (.drop e) r) Γ m Φ := fun ρ s o ho => by
  subst hk
  obtain ⟨d, f, e1, h1⟩ := he _ (fz ρ s)
  obtain ⟨out, e3, h3⟩ := k _ (fz ρ s) o ho
  exact ⟨out, by rw [runs_s (run1_drop rfl e1)]; exact e3, h3⟩
/-- xs[j] = x -/
theorem run_sub {i : Nat} {ix e : E} {r : Ss} {ks : List Nat} {R : Rl α} {xs ys : List α} {j : Int} {x : α} {m : P β} {Φ : Pc β} (hk : kept e ++ peek ix = ks) (fz : Fz Γ ks Γ1) (hs : Γ1[i]? = some (some fun d => rs .W R d xs)) (he : EvR G Γ1 e R x) (hi : EvP G Γ1 ix rI j) (hm : setI xs j x = .ok ys) (z : Zf R)
    (k : RunR G r (Γ1.set i (some fun d => rs .W R d ys)) m Φ) : RunR G (.cons (.sub i ix e) r) Γ m Φ := fun ρ s o ho => by
  subst hk
  have s1 := fz ρ s
  obtain ⟨d, e1, h1⟩ := he _ s1
  obtain ⟨d', f', e2, rfl⟩ := hi _ s1
  obtain ⟨l, e3, h3, ds, h4, h5⟩ := s1.get hs
  obtain ⟨hc, rfl⟩ := of_okp hm
  cases l with
  | lst mm es => cases mm with
    | own =>
      cases h4
      obtain ⟨out, e4, h6⟩ := k _ (s1.set (p := fun d => rs .W R d (xs.set j.toNat x)) (d := .lst .own (ds.set j.toNat d)) ⟨trivial, _, rfl, h5.set h1⟩ i) o ho
      exact ⟨out, by rw [runs_s (run1_sub rfl e1 e2 e3 (h5.fz z) (z _ _ h1) hc.1 (by rw [h5.len]; exact hc.2))]; exact e4, h6⟩
    | _ => cases h3
  | tup _ => cases h3
  | _ => cases h4
theorem run_app {i : Nat} {e : E} {r : Ss} {ks : List Nat} {R : Rl α} {xs ys : List α} {x : α} {m : P β} {Φ : Pc β} (hk : kept e = ks) (fz : Fz Γ ks Γ1) (hs : Γ1[i]? = some (some fun d => rs .W R d xs)) (he : EvR G Γ1 e R x) (hm : push xs x = .ok ys)
    (k : RunR G r (Γ1.set i (some fun d => rs .W R d ys)) m Φ) : RunR G (.cons (.app i e) r) Γ m Φ := fun ρ s o ho => by
  subst hk
  have s1 := fz ρ s
  obtain ⟨d, e1, h1⟩ := he _ s1
  obtain ⟨l, e3, h3, ds, h4, h5⟩ := s1.get hs
  obtain ⟨hc, rfl⟩ := of_okp hm
  cases l with
  | lst mm es => cases mm with
    | own =>
      cases h4
      obtain ⟨out, e4, h6⟩ := k _ (s1.set (p := fun d => rs .W R d (xs ++ [x])) (d := .lst .own (ds ++ [d])) ⟨trivial, _, rfl, h5.append ⟨x, [], rfl, h1, rfl⟩⟩ i) o ho
      exact ⟨out, by rw [runs_s (run1_app rfl e1 e3 (by rw [h5.len]; exact hc))]; exact e4, h6⟩
    | _ => cases h3
  | tup _ => cases h3
  | _ => cases h4
/-- xs[j].append(x) -/
theorem run_app2 {i : Nat} {ix e : E} {r : Ss} {ks : List Nat} {R : Rl α} {xs ys : List (List α)} {j : Int} {x : α} {m : P β} {Φ : Pc β} (hk : kept e ++ peek ix = ks) (fz : Fz Γ ks Γ1) (hs : Γ1[i]? = some (some fun d => rs .W (rs .W R) d xs)) (he : EvR G Γ1 e R x) (hi : EvP G Γ1 ix rI j) (hm : pushAt xs j x = .ok ys) (z : Zf R)
    (k : RunR G r (Γ1.set i (some fun d => rs .W (rs .W R) d ys)) m Φ) : RunR G (.cons (.app2 i ix e) r) Γ m Φ := fun ρ s o ho => by
  subst hk
  have s1 := fz ρ s
  obtain ⟨d, e1, h1⟩ := he _ s1
  obtain ⟨d', f', e2, rfl⟩ := hi _ s1
  obtain ⟨l, e3, h3, ds, h4, h5⟩ := s1.get hs
  cases l with
  | lst mm es => cases mm with
    | own =>
      cases h4
      unfold pushAt at hm
      split at hm
      · rename_i zs hz
        obtain ⟨hc, rfl⟩ := of_okp hm
        obtain ⟨w, e5, k3, ws, k4, k5⟩ := h5.get hz
        cases w with
        | lst mw es2 => cases mw with
          | own =>
            cases k4
            obtain ⟨out, e4, h6⟩ := k _ (s1.set (p := fun d => rs .W (rs .W R) d (xs.set j.toNat (zs ++ [x]))) (d := .lst .own (ds.set j.toNat (.lst .own (ws ++ [d])))) ⟨trivial, _, rfl, h5.set ⟨trivial, _, rfl, k5.append ⟨x, [], rfl, h1, rfl⟩⟩⟩ i) o ho
            exact ⟨out, by rw [runs_s (run1_app2 rfl e1 e2 e3 e5 (z _ _ h1) hc.1 (by rw [k5.len]; exact hc.2))]; exact e4, h6⟩
          | _ => cases k3
        | tup _ => cases k3
        | _ => cases k4
      · cases hm
    | _ => cases h3
  | tup _ => cases h3
  | _ => cases h4
/-- an object that is being filled -/
def rOb (a : Addr) (c : Nat) (ks : List Nat) (ps : List Pd) : Rl Unit := fun d _ => ∃ ds, d = .obj (some a) c ks ds ∧ All2 (fun d (p : Pd) => p d) ds ps
theorem putK_new {k : Nat} {d : D} : ∀ {ks : List Nat} {ds : List D}, ks.contains k = false → ks.length = ds.length → putK k d ks ds = some (ks ++ [k], ds ++ [d])
  | [], [], _, _ => rfl
  | j :: ks, e :: ds, h, hl => by
    have h1 : ¬ j = k ∧ ks.contains k = false := by
      rw [List.contains_cons, Bool.or_eq_false_iff] at h
      exact ⟨fun z => by subst z; simp at h, h.2⟩
    rw [putK, if_neg h1.1, putK_new h1.2 (by simpa using hl)]
    rfl
  | [], _ :: _, _, hl => by cases hl
  | _ :: _, [], _, hl => by cases hl
theorem run_fld {i kf : Nat} {e : E} {r : Ss} {ks : List Nat} {a : Addr} {c : Nat} {fk : List Nat} {ps : List Pd} {R R' : Rl α} {v : α} {m : P β} {Φ : Pc β} (hk : kept e = ks) (fz : Fz Γ ks Γ1) (hs : Γ1[i]? = some (some fun d => rOb a c fk ps d ())) (he : EvR G Γ1 e R v) (hf : Fr R R') (hn : fk.contains kf = false) (hl : fk.length = ps.length) (h1000 : Nat.ble (ps.length + 1) 1000 = true)
    (k : RunR G r (Γ1.set i (some fun d => rOb a c (fk ++ [kf]) (ps ++ [fun d => R' d v]) d ())) m Φ) : RunR G (.cons (.fld i kf e) r) Γ m Φ := fun ρ s o ho => by
  subst hk
  have s1 := fz ρ s
  obtain ⟨d, e1, h1⟩ := he _ s1
  obtain ⟨l, e3, ds, rfl, h5⟩ := s1.get hs
  have hl' : ds.length = ps.length := all2_len h5
  obtain ⟨out, e4, h6⟩ := k _ (s1.set (p := fun d => rOb a c (fk ++ [kf]) (ps ++ [fun d => R' d v]) d ()) (d := .obj (some a) c (fk ++ [kf]) (ds ++ [frz d])) ⟨_, rfl, h5.append ⟨fun d => R' d v, [], rfl, hf _ _ h1, rfl⟩⟩ i) o ho
  exact ⟨out, by rw [runs_s (run1_fld rfl e1 e3 (putK_new hn (by omega)) (by have := Nat.le_of_ble_eq_true h1000; omega))]; exact e4, h6⟩

def fIx (k : Nat) : List Nat → Option Nat
  | [] => none
  | j :: r => if j = k then some 0 else (fIx k r).map (· + 1)
theorem getF_ix {k : Nat} {x : D} : ∀ {fk : List Nat} {ds : List D} {i : Nat}, fIx k fk = some i → ds[i]? = some x → getF k fk ds = some x
  | [], _, _, h, _ => nomatch h
  | j :: r, [], i, _, h => by simp at h
  | j :: r, d :: ds, i, h, hd => by
    unfold fIx at h
    unfold getF
    by_cases e : j = k
    · rw [if_pos e] at h ⊢
      cases h
      simpa using hd
    · rw [if_neg e] at h ⊢
      cases hr : fIx k r with
      | none => rw [hr] at h; cases h
      | some n =>
        rw [hr] at h
        cases h
        exact getF_ix hr (by simpa using hd)
theorem ob_get {k : Nat} {a : Addr} {c : Nat} {fk : List Nat} {ps : List Pd} {d : D} {r : Rl α} {v : α} (h : rOb a c fk ps d ()) (i : Nat) (hi : fIx k fk = some i) (hp : ps[i]? = some fun d => r d v) : ∃ m c ks ds x, d = .obj m c ks ds ∧ getF k ks ds = some x ∧ r x v := by
  obtain ⟨ds, rfl, h1⟩ := h
  obtain ⟨x, hx, h2⟩ := h1.get hp
  exact ⟨_, _, _, _, x, rfl, getF_ix hi hx, h2⟩

/-! branches -/
theorem run1_ite_of {c : E} {a b : Ss} {ρ : Rho} {t : Bool} (h : test G c (frzL ρ (peek c)) = some t) : run1 G (.ite c a b) ρ = runs G (if t then a else b) (frzL ρ (peek c)) := by
  cases t
  · exact run1_f rfl h
  · exact run1_t rfl h
theorem runs_cons_nx {s : S} {r : Ss} {ρ ρ' : Rho} {o : Option Out} (h : run1 G s ρ = some (.nx ρ')) (k : runs G r ρ' = o) : runs G (.cons s r) ρ = o := by rw [runs_s h]; exact k
theorem runs_cons_te {s : S} {r : Ss} {ρ : Rho} {out : Out} (h : run1 G s ρ = some out) (k : ∀ ρ, out ≠ .nx ρ) : runs G (.cons s r) ρ = some out := by
  cases out with
  | nx ρ => exact absurd rfl (k ρ)
  | _ => simp only [runs, h]
/-- both sides run through -/
theorem run_iteJ {c : E} {a b r : Ss} {ks : List Nat} {t : Bool} {ma mb : P σ} {f : σ → P β} {Φ : Pc β} (Γs : σ → Cx) (hk : peek c = ks) (fz : Fz Γ ks Γ1) (hc : EvT G Γ1 c t) (ha : t = true → RunR G a Γ1 ma (NxP Γs)) (hb : t = false → RunR G b Γ1 mb (NxP Γs)) (k : ∀ s, RunR G r (Γs s) (f s) Φ) : RunR G (.cons (.ite c a b) r) Γ ((if t then ma else mb).bind f) Φ := fun ρ s o ho => by
  subst hk
  have s1 := fz ρ s
  have e1 := run1_ite_of (a := a) (b := b) (hc _ s1)
  obtain ⟨x, hx, ho⟩ := P.bind_ok ho
  have go : ∃ out, runs G (if t then a else b) (frzL ρ (peek c)) = some out ∧ NxP Γs x out := by
    cases t
    · exact hb rfl _ s1 x hx
    · exact ha rfl _ s1 x hx
  obtain ⟨out, e2, h2⟩ := go
  cases out with
  | nx ρ' =>
    obtain ⟨out, e3, h3⟩ := k x ρ' h2 o ho
    exact ⟨out, runs_cons_nx (e1.trans e2) e3, h3⟩
  | _ => exact h2.elim
theorem te_ne {Φ : Pc β} {o : β} {out : Out} (h : TeP Φ o out) : Φ o out ∧ ∀ ρ, out ≠ .nx ρ := by
  cases out with
  | nx ρ => exact h.elim
  | rt d => exact ⟨h, fun ρ e => nomatch e⟩
  | bk d => exact ⟨h, fun ρ e => nomatch e⟩
  | ct d => exact ⟨h, fun ρ e => nomatch e⟩
/-- the first side ends, there is no other one -/
theorem run_iteT {c : E} {a r : Ss} {ks : List Nat} {t : Bool} {ma mb : P β} {Φ : Pc β} (hk : peek c = ks) (fz : Fz Γ ks Γ1) (hc : EvT G Γ1 c t) (ha : t = true → RunR G a Γ1 ma (TeP Φ)) (k : t = false → RunR G r Γ1 mb Φ) : RunR G (.cons (.ite c a .nil) r) Γ (if t then ma else mb) Φ := fun ρ s o ho => by
  subst hk
  have s1 := fz ρ s
  have e1 := run1_ite_of (a := a) (b := .nil) (hc _ s1)
  cases t
  · obtain ⟨out, e2, h2⟩ := k rfl _ s1 o ho
    exact ⟨out, runs_cons_nx (e1.trans runs_nil) e2, h2⟩
  · obtain ⟨out, e2, h2⟩ := ha rfl _ s1 o ho
    obtain ⟨h3, h4⟩ := te_ne h2
    exact ⟨out, runs_cons_te (e1.trans e2) h4, h3⟩
/-- the first side ends, the other one runs through -/
theorem run_iteTF {c : E} {a b r : Ss} {ks : List Nat} {t : Bool} {ma : P β} {mb : P σ} {f : σ → P β} {Φ : Pc β} (Γs : σ → Cx) (hk : peek c = ks) (fz : Fz Γ ks Γ1) (hc : EvT G Γ1 c t) (ha : t = true → RunR G a Γ1 ma (TeP Φ)) (hb : t = false → RunR G b Γ1 mb (NxP Γs)) (k : ∀ s, RunR G r (Γs s) (f s) Φ) : RunR G (.cons (.ite c a b) r) Γ (if t then ma else mb.bind f) Φ := fun ρ s o ho => by
  subst hk
  have s1 := fz ρ s
  have e1 := run1_ite_of (a := a) (b := b) (hc _ s1)
  cases t
  · obtain ⟨x, hx, ho⟩ := P.bind_ok ho
    obtain ⟨out, e2, h2⟩ := hb rfl _ s1 x hx
    cases out with
    | nx ρ' =>
      obtain ⟨out, e3, h3⟩ := k x ρ' h2 o ho
      exact ⟨out, runs_cons_nx (e1.trans e2) e3, h3⟩
    | _ => exact h2.elim
  · obtain ⟨out, e2, h2⟩ := ha rfl _ s1 o ho
    obtain ⟨h3, h4⟩ := te_ne h2
    exact ⟨out, runs_cons_te (e1.trans e2) h4, h3⟩
theorem run_iteFT {c : E} {a b r : Ss} {ks : List Nat} {t : Bool} {mb : P β} {ma : P σ} {f : σ → P β} {Φ : Pc β} (Γs : σ → Cx) (hk : peek c = ks) (fz : Fz Γ ks Γ1) (hc : EvT G Γ1 c t) (ha : t = true → RunR G a Γ1 ma (NxP Γs)) (hb : t = false → RunR G b Γ1 mb (TeP Φ)) (k : ∀ s, RunR G r (Γs s) (f s) Φ) : RunR G (.cons (.ite c a b) r) Γ (if t then ma.bind f else mb) Φ := fun ρ s o ho => by
  subst hk
  have s1 := fz ρ s
  have e1 := run1_ite_of (a := a) (b := b) (hc _ s1)
  cases t
  · obtain ⟨out, e2, h2⟩ := hb rfl _ s1 o ho
    obtain ⟨h3, h4⟩ := te_ne h2
    exact ⟨out, runs_cons_te (e1.trans e2) h4, h3⟩
  · obtain ⟨x, hx, ho⟩ := P.bind_ok ho
    obtain ⟨out, e2, h2⟩ := ha rfl _ s1 x hx
    cases out with
    | nx ρ' =>
      obtain ⟨out, e3, h3⟩ := k x ρ' h2 o ho
      exact ⟨out, runs_cons_nx (e1.trans e2) e3, h3⟩
    | _ => exact h2.elim
/-- both end -/
theorem run_iteTT {c : E} {a b r : Ss} {ks : List Nat} {t : Bool} {ma mb : P β} {Φ : Pc β} (hk : peek c = ks) (fz : Fz Γ ks Γ1) (hc : EvT G Γ1 c t) (ha : t = true → RunR G a Γ1 ma (TeP Φ)) (hb : t = false → RunR G b Γ1 mb (TeP Φ)) : RunR G (.cons (.ite c a b) r) Γ (if t then ma else mb) Φ := fun ρ s o ho => by
  subst hk
  have s1 := fz ρ s
  have e1 := run1_ite_of (a := a) (b := b) (hc _ s1)
  cases t
  · obtain ⟨out, e2, h2⟩ := hb rfl _ s1 o ho
    obtain ⟨h3, h4⟩ := te_ne h2
    exact ⟨out, runs_cons_te (e1.trans e2) h4, h3⟩
  · obtain ⟨out, e2, h2⟩ := ha rfl _ s1 o ho
    obtain ⟨h3, h4⟩ := te_ne h2
    exact ⟨out, runs_cons_te (e1.trans e2) h4, h3⟩
theorem sx_l {Γs : σ → Cx} {Φ : Pc β} {s : σ} {out : Out} (h : SxP Γs Φ (.inl s) out) : ∃ ρ, out = .nx ρ ∧ Sat (Γs s) ρ := by
  cases out with
  | nx ρ => exact ⟨ρ, rfl, h⟩
  | _ => exact h.elim
theorem sx_r {Γs : σ → Cx} {Φ : Pc β} {o : β} {out : Out} (h : SxP Γs Φ (.inr o) out) : Φ o out ∧ ∀ ρ, out ≠ .nx ρ := by
  cases out with
  | nx ρ => exact h.elim
  | rt d => exact ⟨h, fun ρ e => nomatch e⟩
  | bk d => exact ⟨h, fun ρ e => nomatch e⟩
  | ct d => exact ⟨h, fun ρ e => nomatch e⟩
/-- each side may run through or end -/
theorem run_iteS {c : E} {a b r : Ss} {ks : List Nat} {t : Bool} {ma mb : P (Sum σ β)} {f : σ → P β} {Φ : Pc β} (Γs : σ → Cx) (hk : peek c = ks) (fz : Fz Γ ks Γ1) (hc : EvT G Γ1 c t) (ha : t = true → RunR G a Γ1 ma (SxP Γs Φ)) (hb : t = false → RunR G b Γ1 mb (SxP Γs Φ)) (k : ∀ s, RunR G r (Γs s) (f s) Φ) : RunR G (.cons (.ite c a b) r) Γ (thenK (if t then ma else mb) f .ok) Φ := fun ρ s o ho => by
  subst hk
  have s1 := fz ρ s
  have e1 := run1_ite_of (a := a) (b := b) (hc _ s1)
  unfold thenK at ho
  obtain ⟨x, hx, ho⟩ := P.bind_ok ho
  have go : ∃ out, runs G (if t then a else b) (frzL ρ (peek c)) = some out ∧ SxP Γs Φ x out := by
    cases t
    · exact hb rfl _ s1 x hx
    · exact ha rfl _ s1 x hx
  obtain ⟨out, e2, h2⟩ := go
  cases x with
  | inl x =>
    obtain ⟨ρ', rfl, h3⟩ := sx_l h2
    obtain ⟨out, e3, h3⟩ := k x ρ' h3 o ho
    exact ⟨out, runs_cons_nx (e1.trans e2) e3, h3⟩
  | inr x =>
    cases ho
    obtain ⟨h3, h4⟩ := sx_r h2
    exact ⟨out, runs_cons_te (e1.trans e2) h4, h3⟩

/-! loops -/
theorem foldP_run {tg : Tg} {b : Ss} {r : Rl α} {f : σ → α → P σ} (Γs : σ → Cx) (Γb : σ → α → Cx) (hb : ∀ s x, Bd (Γs s) tg r x (Γb s x)) (hr : ∀ s x, RunR G b (Γb s x) (f s x) (FoldP Γs)) : ∀ {xs : List α} {ds : List D} {s : σ} {ρ : Rho}, All2 r ds xs → Sat (Γs s) ρ → ∀ s', foldP f xs s = .ok s' → ∃ ρ', forD (bindT tg) (runs G b) ds ρ = some (.nx ρ') ∧ Sat (Γs s') ρ'
  | xs, [], s, ρ, h, hs, s', e => by cases (h : xs = []); cases e; exact ⟨ρ, rfl, hs⟩
  | xs, d :: ds, s, ρ, h, hs, s', e => by
    obtain ⟨x, xs', rfl, h1, h2⟩ := h
    obtain ⟨s1, e1, e⟩ := P.bind_ok e
    obtain ⟨ρ1, e2, k2⟩ := hb s x ρ d hs h1
    obtain ⟨out, e3, k3⟩ := hr s x ρ1 k2 s1 e1
    cases out with
    | nx ρ2 =>
      obtain ⟨ρ', e4, k4⟩ := foldP_run Γs Γb hb hr h2 k3 s' e
      exact ⟨ρ', by simp only [forD, e2, e3]; exact e4, k4⟩
    | ct ρ2 =>
      obtain ⟨ρ', e4, k4⟩ := foldP_run Γs Γb hb hr h2 k3 s' e
      exact ⟨ρ', by simp only [forD, e2, e3]; exact e4, k4⟩
    | _ => exact k3.elim
theorem run_fold {tg : Tg} {it : It} {b rest : Ss} {ks : List Nat} {r : Rl α} {xs : List α} {f : σ → α → P σ} {s0 : σ} {k : σ → P β} {Φ : Pc β} (Γs : σ → Cx) {Γb : σ → α → Cx} (hk : keptI it = ks) (fz : Fz Γ ks Γ1) (hit : EvI G Γ1 it r xs) (hw : Wk Γ1 (Γs s0)) (hb : ∀ s x, Bd (Γs s) tg r x (Γb s x)) (hr : ∀ s x, RunR G b (Γb s x) (f s x) (FoldP Γs)) (hk2 : ∀ s, RunR G rest (Γs s) (k s) Φ) :
    RunR G (.cons (.for_ tg it b) rest) Γ ((foldP f xs s0).bind k) Φ := fun ρ s o ho => by
  subst hk
  obtain ⟨s1, e1, ho⟩ := P.bind_ok ho
  have q := fz ρ s
  obtain ⟨ds, e2, h2⟩ := hit _ q
  obtain ⟨ρ', e3, h3⟩ := foldP_run Γs Γb hb hr h2 (hw _ q) s1 e1
  obtain ⟨out, e4, h4⟩ := hk2 s1 ρ' h3 o ho
  exact ⟨out, runs_cons_nx (run1_for rfl e2 e3) e4, h4⟩
theorem forC_run {tg : Tg} {b : Ss} {r : Rl α} {f : σ → α → P (Ctl σ β)} {Ψ : β → D → Prop} (Γs : σ → Cx) (Γb : σ → α → Cx) (hb : ∀ s x, Bd (Γs s) tg r x (Γb s x)) (hr : ∀ s x, RunR G b (Γb s x) (f s x) (CtlP Γs Ψ)) : ∀ {xs : List α} {ds : List D} {s : σ} {ρ : Rho}, All2 r ds xs → Sat (Γs s) ρ → ∀ c, forC f xs s = .ok c →
    match c with
    | .inl s' => ∃ ρ', forD (bindT tg) (runs G b) ds ρ = some (.nx ρ') ∧ Sat (Γs s') ρ'
    | .inr o => ∃ d, forD (bindT tg) (runs G b) ds ρ = some (.rt d) ∧ Ψ o d
  | xs, [], s, ρ, h, hs, c, e => by cases (h : xs = []); cases e; exact ⟨ρ, rfl, hs⟩
  | xs, d :: ds, s, ρ, h, hs, c, e => by
    obtain ⟨x, xs', rfl, h1, h2⟩ := h
    obtain ⟨c1, e1, e⟩ := P.bind_ok e
    obtain ⟨ρ1, e2, k2⟩ := hb s x ρ d hs h1
    obtain ⟨out, e3, k3⟩ := hr s x ρ1 k2 c1 e1
    cases c1 with
    | nx s1 =>
      cases out with
      | nx ρ2 =>
        have := forC_run Γs Γb hb hr h2 k3 c e
        cases c with
        | inl s' => obtain ⟨ρ', e4, k4⟩ := this; exact ⟨ρ', by simp only [forD, e2, e3]; exact e4, k4⟩
        | inr o => obtain ⟨ρ', e4, k4⟩ := this; exact ⟨ρ', by simp only [forD, e2, e3]; exact e4, k4⟩
      | ct ρ2 =>
        have := forC_run Γs Γb hb hr h2 k3 c e
        cases c with
        | inl s' => obtain ⟨ρ', e4, k4⟩ := this; exact ⟨ρ', by simp only [forD, e2, e3]; exact e4, k4⟩
        | inr o => obtain ⟨ρ', e4, k4⟩ := this; exact ⟨ρ', by simp only [forD, e2, e3]; exact e4, k4⟩
      | _ => exact k3.elim
    | bk s1 =>
      cases e
      cases out with
      | bk ρ2 => exact ⟨ρ2, by simp only [forD, e2, e3], k3⟩
      | _ => exact k3.elim
    | rt o =>
      cases e
      cases out with
      | rt d' => exact ⟨d', by simp only [forD, e2, e3], k3⟩
      | _ => exact k3.elim
theorem run_forC {tg : Tg} {it : It} {b rest : Ss} {ks : List Nat} {r : Rl α} {xs : List α} {f : σ → α → P (Ctl σ ι)} {s0 : σ} {k : σ → P β} {w : ι → β} {Φ : Pc β} (Γs : σ → Cx) {Γb : σ → α → Cx} (hk : keptI it = ks) (fz : Fz Γ ks Γ1) (hit : EvI G Γ1 it r xs) (hw : Wk Γ1 (Γs s0)) (hb : ∀ s x, Bd (Γs s) tg r x (Γb s x)) (hr : ∀ s x, RunR G b (Γb s x) (f s x) (CtlP Γs fun o d => Φ (w o) (.rt d))) (hk2 : ∀ s, RunR G rest (Γs s) (k s) Φ) :
    RunR G (.cons (.for_ tg it b) rest) Γ (thenK (forC f xs s0) k fun o => .ok (w o)) Φ := fun ρ s o ho => by
  subst hk
  unfold thenK at ho
  obtain ⟨c, e1, ho⟩ := P.bind_ok ho
  have q := fz ρ s
  obtain ⟨ds, e2, h2⟩ := hit _ q
  have := forC_run Γs Γb hb hr h2 (hw _ q) c e1
  cases c with
  | inl s1 =>
    obtain ⟨ρ', e3, h3⟩ := this
    obtain ⟨out, e4, h4⟩ := hk2 s1 ρ' h3 o ho
    exact ⟨out, runs_cons_nx (run1_for rfl e2 e3) e4, h4⟩
  | inr z =>
    cases ho
    obtain ⟨d, e3, h3⟩ := this
    exact ⟨.rt d, runs_cons_te (run1_for rfl e2 e3) (fun ρ e => nomatch e), h3⟩
theorem whileP_run {c : E} {b : Ss} {ct : σ → P Bool} {f : σ → P σ} (Γs : σ → Cx) (hc : ∀ s t, ct s = .ok t → EvT G (Γs s) c t) (hr : ∀ s, RunR G b (Γs s) (f s) (FoldP Γs)) : ∀ (n : Nat) {s : σ} {ρ : Rho}, Sat (Γs s) ρ → ∀ s', whileP ct f n s = .ok s' → ∃ ρ', whileD (test G c) (runs G b) n ρ = some (.nx ρ') ∧ Sat (Γs s') ρ'
  | 0, s, ρ, h, s', e => nomatch e
  | n + 1, s, ρ, h, s', e => by
    unfold whileP at e
    obtain ⟨t, e1, e⟩ := P.bind_ok e
    have e2 := hc s t e1 ρ h
    cases t with
    | false => cases e; exact ⟨ρ, by unfold whileD; rw [e2], h⟩
    | true =>
      obtain ⟨s1, e3, e⟩ := P.bind_ok (show (f s).bind (fun s' => whileP ct f n s') = .ok s' from e)
      obtain ⟨out, e4, k4⟩ := hr s ρ h s1 e3
      cases out with
      | nx ρ2 =>
        obtain ⟨ρ', e5, k5⟩ := whileP_run Γs hc hr n k4 s' e
        exact ⟨ρ', by unfold whileD; rw [e2]; simp only [e4]; exact e5, k5⟩
      | ct ρ2 =>
        obtain ⟨ρ', e5, k5⟩ := whileP_run Γs hc hr n k4 s' e
        exact ⟨ρ', by unfold whileD; rw [e2]; simp only [e4]; exact e5, k5⟩
      | _ => exact k4.elim
theorem run_while {c : E} {b rest : Ss} {ks : List Nat} {n : Nat} {ct : σ → P Bool} {f : σ → P σ} {s0 : σ} {k : σ → P β} {Φ : Pc β} (Γs : σ → Cx) (hn : G.wf = n) (hk : peek c = ks) (fz : Fz Γ ks Γ1) (hw : Wk Γ1 (Γs s0)) (hc : ∀ s t, ct s = .ok t → EvT G (Γs s) c t) (hr : ∀ s, RunR G b (Γs s) (f s) (FoldP Γs)) (hk2 : ∀ s, RunR G rest (Γs s) (k s) Φ) :
    RunR G (.cons (.while_ c b) rest) Γ ((whileP ct f n s0).bind k) Φ := fun ρ s o ho => by
  subst hk
  subst hn
  obtain ⟨s1, e1, ho⟩ := P.bind_ok ho
  obtain ⟨ρ', e3, h3⟩ := whileP_run Γs hc hr _ (hw _ (fz ρ s)) s1 e1
  obtain ⟨out, e4, h4⟩ := hk2 s1 ρ' h3 o ho
  exact ⟨out, runs_cons_nx (run1_while rfl e3) e4, h4⟩
theorem whileC_run {c : E} {b : Ss} {ct : σ → P Bool} {f : σ → P (Ctl σ β)} {Ψ : β → D → Prop} (Γs : σ → Cx) (hc : ∀ s t, ct s = .ok t → EvT G (Γs s) c t) (hr : ∀ s, RunR G b (Γs s) (f s) (CtlP Γs Ψ)) : ∀ (n : Nat) {s : σ} {ρ : Rho}, Sat (Γs s) ρ → ∀ z, whileC ct f n s = .ok z →
    match z with
    | .inl s' => ∃ ρ', whileD (test G c) (runs G b) n ρ = some (.nx ρ') ∧ Sat (Γs s') ρ'
    | .inr o => ∃ d, whileD (test G c) (runs G b) n ρ = some (.rt d) ∧ Ψ o d
  | 0, s, ρ, h, z, e => nomatch e
  | n + 1, s, ρ, h, z, e => by
    unfold whileC at e
    obtain ⟨t, e1, e⟩ := P.bind_ok e
    have e2 := hc s t e1 ρ h
    cases t with
    | false => cases e; exact ⟨ρ, by unfold whileD; rw [e2], h⟩
    | true =>
      obtain ⟨c1, e3, e⟩ := P.bind_ok e
      obtain ⟨out, e4, k4⟩ := hr s ρ h c1 e3
      cases c1 with
      | nx s1 =>
        cases out with
        | nx ρ2 =>
          have := whileC_run Γs hc hr n k4 z e
          cases z with
          | inl s' => obtain ⟨ρ', e5, k5⟩ := this; exact ⟨ρ', by unfold whileD; rw [e2]; simp only [e4]; exact e5, k5⟩
          | inr o => obtain ⟨ρ', e5, k5⟩ := this; exact ⟨ρ', by unfold whileD; rw [e2]; simp only [e4]; exact e5, k5⟩
        | ct ρ2 =>
          have := whileC_run Γs hc hr n k4 z e
          cases z with
          | inl s' => obtain ⟨ρ', e5, k5⟩ := this; exact ⟨ρ', by unfold whileD; rw [e2]; simp only [e4]; exact e5, k5⟩
          | inr o => obtain ⟨ρ', e5, k5⟩ := this; exact ⟨ρ', by unfold whileD; rw [e2]; simp only [e4]; exact e5, k5⟩
        | _ => exact k4.elim
      | bk s1 =>
        cases e
        cases out with
        | bk ρ2 => exact ⟨ρ2, by unfold whileD; rw [e2]; simp only [e4], k4⟩
        | _ => exact k4.elim
      | rt o =>
        cases e
        cases out with
        | rt d' => exact ⟨d', by unfold whileD; rw [e2]; simp only [e4], k4⟩
        | _ => exact k4.elim
theorem run_whileC {c : E} {b rest : Ss} {ks : List Nat} {n : Nat} {ct : σ → P Bool} {f : σ → P (Ctl σ ι)} {s0 : σ} {k : σ → P β} {w : ι → β} {Φ : Pc β} (Γs : σ → Cx) (hn : G.wf = n) (hk : peek c = ks) (fz : Fz Γ ks Γ1) (hw : Wk Γ1 (Γs s0)) (hc : ∀ s t, ct s = .ok t → EvT G (Γs s) c t) (hr : ∀ s, RunR G b (Γs s) (f s) (CtlP Γs fun o d => Φ (w o) (.rt d))) (hk2 : ∀ s, RunR G rest (Γs s) (k s) Φ) :
    RunR G (.cons (.while_ c b) rest) Γ (thenK (whileC ct f n s0) k fun o => .ok (w o)) Φ := fun ρ s o ho => by
  subst hk
  subst hn
  unfold thenK at ho
  obtain ⟨z, e1, ho⟩ := P.bind_ok ho
  have := whileC_run Γs hc hr _ (hw _ (fz ρ s)) z e1
  cases z with
  | inl s1 =>
    obtain ⟨ρ', e3, h3⟩ := this
    obtain ⟨out, e4, h4⟩ := hk2 s1 ρ' h3 o ho
    exact ⟨out, runs_cons_nx (run1_while rfl e3) e4, h4⟩
  | inr z =>
    cases ho
    obtain ⟨d, e3, h3⟩ := this
    exact ⟨.rt d, runs_cons_te (run1_while rfl e3) (fun ρ e => nomatch e), h3⟩

/-! defs -/
theorem sat_none : ∀ n : Nat, Sat (List.replicate n none) (List.replicate n none)
  | 0 => rfl
  | n + 1 => ⟨none, _, rfl, sat_none n⟩
theorem sat_start : ∀ {ds : List D} {ps : List Pd} (n : Nat), All2 (fun d (p : Pd) => p d) ds ps → Sat (ps.map some ++ List.replicate n none) (ds.map some ++ List.replicate n none)
  | [], ps, n, h => by cases (h : ps = []); exact sat_none n
  | d :: ds, ps, n, h => by obtain ⟨p, qs, rfl, h1, h2⟩ := h; exact ⟨d, _, rfl, h1, sat_start n h2⟩
theorem def_ok {f : Z.Def} {ps : List Pd} {m : P α} {r : Rl α} {Γ0 : Cx} (hl : ps.length = f.ps) (hg : ps.map some ++ List.replicate (f.n - ps.length) none = Γ0) (h : RunR G f.body Γ0 m (RetP r)) : CallOk (runD G f) ps m r := fun ds hd v hv => by
  have l := all2_len hd
  subst hg
  obtain ⟨out, e, k⟩ := h (startR f.n ds) (by unfold startR; rw [l]; exact sat_start _ hd) v hv
  unfold runD
  rw [if_pos (by rw [l, hl]), e]
  cases out with
  | nx ρ => exact ⟨.non, rfl, k⟩
  | rt d => exact ⟨d, rfl, k⟩
  | _ => exact k.elim
/-- an __init__: what stands in its object's slot at the end -/
def IniP (a : Addr) (c : Nat) (r : Rl α) : Pc α := fun v out => match out with
  | .nx ρ => ∃ ks ds, ρ[0]? = some (some (.obj (some a) c ks ds)) ∧ r (.obj none c ks ds) v
  | _ => False
theorem ini_end {a : Addr} {c : Nat} {ks : List Nat} {ps : List Pd} {r : Rl α} {v : α} (hs : Γ[0]? = some (some fun d => rOb a c ks ps d ())) (h : ∀ ds, All2 (fun d (p : Pd) => p d) ds ps → r (.obj none c ks ds) v) : ∀ ρ, Sat Γ ρ → IniP a c r v (.nx ρ) := fun ρ s => by
  obtain ⟨d, e, ds, rfl, h1⟩ := s.get hs
  exact ⟨ks, ds, e, h ds h1⟩
theorem ini_ok {f : Z.Def} {ps : List Pd} {m : P α} {r : Rl α} {c : Nat} {Γ0 : Addr → Cx} (hl : ps.length + 1 = f.ps) (hg : ∀ a, (some fun d => rOb a c [] [] d ()) :: (ps.map some ++ List.replicate (f.n - (ps.length + 1)) none) = Γ0 a) (h : ∀ a, RunR G f.body (Γ0 a) m (IniP a c r)) : ∀ a, CallOk (initD G c f a) ps m r := fun a ds hd v hv => by
  have l := all2_len hd
  have h := h a
  rw [← hg a] at h
  obtain ⟨out, e, k⟩ := h (startR f.n (D.obj (some a) c [] [] :: ds)) (by
    unfold startR
    rw [List.length_cons, l]
    exact ⟨_, _, rfl, ⟨[], rfl, rfl⟩, sat_start _ hd⟩) v hv
  unfold initD
  rw [if_pos (by rw [l, hl]), e]
  cases out with
  | nx ρ =>
    obtain ⟨ks, fs, e2, k2⟩ := k
    exact ⟨_, by simp only [e2, and_self, if_true], k2⟩
  | _ => exact k.elim
theorem em_bind {C : β → Prop} {m : P α} {f : α → P β} (h : ∀ t, m = .ok t → ∀ y, f t = .ok y → C y) : ∀ y, m.bind f = .ok y → C y := fun y hy => by
  obtain ⟨t, ht, hf⟩ := P.bind_ok hy
  exact h t ht y hf
theorem em_ok {C : β → Prop} {v : β} (h : C v) : ∀ y, P.ok v = .ok y → C y := fun y hy => by cases hy; exact h
theorem eqt_I : EqT rI rI := eqt dat_I dat_I eqf_I (by omega) (by omega)
theorem eqt_B : EqT rB rB := eqt dat_B dat_B eqf_B (by omega) (by omega)
/-- a value has one tree -/
abbrev Fu (r : Rl α) : Prop := ∀ d d' v, r d v → r d' v → d = d'
theorem fu_I : Fu rI := fun d d' v h h' => by cases (h : d = _); cases (h' : d' = _); rfl
theorem fu_B : Fu rB := fun d d' v h h' => by cases (h : d = _); cases (h' : d' = _); rfl
theorem fu_U : Fu rU := fun d d' v h h' => by cases (h : d = _); cases (h' : d' = _); rfl
theorem fu_S : Fu rS := fun d d' v h h' => by cases (h : d = _); cases (h' : d' = _); rfl
theorem fu_O {r : Rl α} (k : Fu r) : Fu (rO r) := fun d d' v h h' => by
  cases v with
  | none => cases (h : d = _); cases (h' : d' = _); rfl
  | some v => exact k _ _ _ h.1 h'.1
theorem All2.fu {r : Rl α} (k : Fu r) : ∀ {ds es : List D} {xs : List α}, All2 r ds xs → All2 r es xs → ds = es
  | [], es, xs, h, h' => by
    cases (h : xs = [])
    cases es with
    | nil => rfl
    | cons e es => obtain ⟨_, _, e, _⟩ := h'; cases e
  | d :: ds, es, xs, h, h' => by
    obtain ⟨v, vs, rfl, h1, h2⟩ := h
    cases es with
    | nil => cases h'
    | cons e es => obtain ⟨_, _, e, k1, k2⟩ := h'; cases e; rw [k _ _ _ h1 k1, h2.fu k k2]
theorem fu_T {r : Rl α} (k : Fu r) : Fu (rs .T r) := fun d d' v ⟨h1, ds, h2, h3⟩ ⟨h1', ds', h2', h3'⟩ => by
  cases d with
  | tup es =>
    cases d' with
    | tup es' => cases h2; cases h2'; rw [h3.fu k h3']
    | lst m es => cases m <;> cases h1'
    | _ => cases h2'
  | lst m es => cases m <;> cases h1
  | _ => cases h2
theorem fu_F {r : Rl α} (k : Fu r) : Fu (rs .F r) := fun d d' v ⟨h1, ds, h2, h3⟩ ⟨h1', ds', h2', h3'⟩ => by
  cases d with
  | lst m es => cases m with
    | fz =>
      cases d' with
      | lst m' es' => cases m' with
        | fz => cases h2; cases h2'; rw [h3.fu k h3']
        | _ => cases h1'
      | tup _ => cases h1'
      | _ => cases h2'
    | _ => cases h1
  | tup _ => cases h1
  | _ => cases h2
theorem fu_P2 {r1 : Rl α} {r2 : Rl β} (a : Fu r1) (b : Fu r2) : Fu (rP2 r1 r2) := fun d d' v ⟨d1, d2, e, h1, h2⟩ ⟨e1, e2, e', k1, k2⟩ => by
  subst e; subst e'; rw [a _ _ _ h1 k1, b _ _ _ h2 k2]
theorem fu_P3 {r1 : Rl α} {r2 : Rl β} {r3 : Rl γ} (a : Fu r1) (b : Fu r2) (c : Fu r3) : Fu (rP3 r1 r2 r3) := fun d d' v ⟨d1, d2, d3, e, h1, h2, h3⟩ ⟨e1, e2, e3, e', k1, k2, k3⟩ => by
  subst e; subst e'; rw [a _ _ _ h1 k1, b _ _ _ h2 k2, c _ _ _ h3 k3]
theorem new_ok {f : Z.Def} {ps : List Pd} {m : P α} {r : Rl α} {c : Nat} (u : Fu r) (h : ∀ a, CallOk (initD G c f a) ps m r) : CallOk (newD G c f) ps m r := fun ds hd v hv => by
  obtain ⟨d, e, k⟩ := h 0 ds hd v hv
  refine ⟨d, newD_of fun a => ?_, k⟩
  obtain ⟨d', e', k'⟩ := h a ds hd v hv
  rw [e', u _ _ _ k' k]
end
end Y

/-! FrLib: the program's defs and the laws' helpers, typed (made by mkty.py). -/
namespace Fr
open Y
def WF : Nat := 100000
def f_law_cell (script : (List Int)) (k : Int) : P Int :=
  if (decide (k < (script.length : Int))) then
  ((getI script k).bind fun x =>
    .ok x)
  else
  P.bind (foldP (fun (seed : Int) (cell : Int) =>
      P.bind (.ok ((((seed * (31 : Int)) + (cell % (1000003 : Int))) % (1000003 : Int)))) fun seed_1 : Int =>
      .ok seed_1) script ((17 : Int) : Int)) fun seed_2 =>
  (mulI (seed_2 + (7 : Int)) (k + (3 : Int))).bind fun m =>
  .ok (((m * (69621 : Int)) % (2147483647 : Int)))
def f_law_digits (cell : Int) (sizes : (List Int)) : P (List Int) :=
  P.bind (.ok ([])) fun row : (List Int) =>
  if (decide (((10 : Int) ^ 18) ≤ cell)) then
  (P.bind (.ok ((cell - ((10 : Int) ^ 18)))) fun rest : Int =>
    P.bind (foldP (fun (s : ((List Int) × Int)) (size : Int) =>
        (modI s.2 size).bind fun m =>
        (push s.1 m).bind fun row_1 =>
        (divI s.2 size).bind fun q =>
        .ok (row_1, q)) sizes ((row, rest) : ((List Int) × Int))) fun s_1 =>
    .ok s_1.1)
  else
  P.bind (.ok ((cell % (2147483629 : Int)))) fun seed : Int =>
  (rng0 (sizes.length : Int)).bind fun r =>
  P.bind (foldP (fun (s_2 : ((List Int) × Int)) (k : Int) =>
      P.bind (.ok (((((s_2.2 * (48271 : Int)) + ((974711 : Int) * k)) + (12345 : Int)) % (2147483647 : Int)))) fun seed_1 : Int =>
      (mulI seed_1 ((seed_1 / (65537 : Int)) + (3 : Int))).bind fun m_1 =>
      P.bind (.ok ((m_1 % (2147483629 : Int)))) fun twice : Int =>
      (getI sizes k).bind fun x =>
      (modI (twice / (19 : Int)) x).bind fun m_2 =>
      (push s_2.1 m_2).bind fun row_2 =>
      .ok (row_2, seed_1)) r ((row, seed) : ((List Int) × Int))) fun s_3 =>
  .ok s_3.1
def f_law_web (row : (List Int)) (most : Int) : P (Int × (List (Int × Int))) :=
  (getI row (0 : Int)).bind fun x =>
  (getI [(5 : Int), (4 : Int), (6 : Int), (3 : Int), (5 : Int), (7 : Int), (4 : Int), (6 : Int), (2 : Int), (5 : Int), (1 : Int), (6 : Int)] x).bind fun x_1 =>
  P.bind (.ok ((min2 most x_1))) fun size : Int =>
  P.bind (.ok ([])) fun known : (List (Int × Int)) =>
  (rng (1 : Int) size).bind fun r =>
  P.bind (foldP (fun (known_1 : (List (Int × Int))) (k : Int) =>
      (getI row ((2 : Int) * k)).bind fun x_2 =>
      (getI [(k - (1 : Int)), (k - (1 : Int)), (k - (1 : Int)), (0 : Int), (k / (2 : Int)), (0 : Int)] x_2).bind fun x_3 =>
      (getI row (13 : Int)).bind fun x_4 =>
      P.bind (if (decide (x_4 < (4 : Int))) then
        (P.bind (.ok ((k - (1 : Int)))) fun mate : Int =>
          .ok mate)
        else
        .ok x_3) fun mate_1 =>
      (getI row (((2 : Int) * k) - (1 : Int))).bind fun x_5 =>
      P.bind (if (decide (x_5 < (19 : Int))) then
        ((push known_1 (mate_1, k)).bind fun known_2 =>
          .ok known_2)
        else
        .ok known_1) fun known_3 =>
      .ok known_3) r (known : (List (Int × Int)))) fun known_4 =>
  (if (decide ((2 : Int) < size)) then (getI row (13 : Int)).bind fun x_6 => .ok ((decide (x_6 < (6 : Int)))) else .ok false).bind fun t =>
  P.bind (if t then
    ((push known_4 ((0 : Int), (size - (1 : Int)))).bind fun known_5 =>
      .ok known_5)
    else
    .ok known_4) fun known_6 =>
  (rng0 (3 : Int)).bind fun r_1 =>
  P.bind (foldP (fun (known_7 : (List (Int × Int))) (k_1 : Int) =>
      (getI row ((14 : Int) + ((2 : Int) * k_1))).bind fun x_7 =>
      (modI x_7 size).bind fun m =>
      (getI row ((15 : Int) + ((2 : Int) * k_1))).bind fun x_8 =>
      (modI x_8 size).bind fun m_1 =>
      (if (decide (m < m_1)) then (getI row ((15 : Int) + ((2 : Int) * k_1))).bind fun x_9 => .ok ((decide ((2 : Int) < x_9))) else .ok false).bind fun t_1 =>
      P.bind (if t_1 then
        ((push known_7 (m, m_1)).bind fun known_8 =>
          .ok known_8)
        else
        .ok known_7) fun known_9 =>
      .ok known_9) r_1 (known_6 : (List (Int × Int)))) fun known_10 =>
  P.bind (.ok ([])) fun lines : (List (Int × Int)) =>
  (rng0 size).bind fun r_2 =>
  P.bind (foldP (fun (lines_1 : (List (Int × Int))) (a : Int) =>
      (rng (a + (1 : Int)) size).bind fun r_3 =>
      P.bind (foldP (fun (lines_2 : (List (Int × Int))) (b : Int) =>
          P.bind (if (decide ((a, b) ∈ known_10)) then
            ((push lines_2 (a, b)).bind fun lines_3 =>
              .ok lines_3)
            else
            .ok lines_2) fun lines_4 =>
          .ok lines_4) r_3 (lines_1 : (List (Int × Int)))) fun lines_5 =>
      .ok lines_5) r_2 (lines : (List (Int × Int)))) fun lines_6 =>
  .ok ((size, lines_6))
def f_law_picture (row : (List Int)) (size : Int) : P (List Int) :=
  (getI row (0 : Int)).bind fun x =>
  (if (decide ((4 : Int) ≤ x)) then (getI row (0 : Int)).bind fun x_1 => .ok ((decide (x_1 ≤ (7 : Int)))) else .ok false).bind fun t =>
  if t then
  ((rng0 size).bind fun r =>
    (lcP (fun k : Int => P.bind ((getI row (1 : Int)).bind fun x_2 => .ok (((k + x_2) % (3 : Int)))) fun y => .ok (some y)) r).bind fun l =>
    .ok l)
  else
  (getI row (0 : Int)).bind fun x_3 =>
  if (decide (x_3 = (8 : Int))) then
  ((rng0 size).bind fun r_1 =>
    (lcP (fun k_1 : Int => P.bind ((getI row (1 : Int)).bind fun x_4 => (getI row (2 : Int)).bind fun x_5 => .ok ((((k_1 + x_4) % (3 : Int)) * (b2i (!(decide (k_1 = (x_5 + (1 : Int))))))))) fun y => .ok (some y)) r_1).bind fun l_1 =>
    .ok l_1)
  else
  (getI row (0 : Int)).bind fun x_6 =>
  if (decide (x_6 = (9 : Int))) then
  ((rng0 size).bind fun r_2 =>
    (lcP (fun k_2 : Int => P.bind ((getI row (1 : Int)).bind fun x_7 => .ok ((b2i (decide (k_2 = x_7))))) fun y => .ok (some y)) r_2).bind fun l_2 =>
    .ok l_2)
  else
  (rng0 size).bind fun r_3 =>
  (lcP (fun k_3 : Int => P.bind ((getI row ((2 : Int) + k_3)).bind fun x_8 => .ok (x_8)) fun y => .ok (some y)) r_3).bind fun l_3 =>
  .ok l_3
def f_law_scene (script : (List Int)) (at_ : Int) (most : Int) : P (Int × (List (Int × Int)) × (List Int)) :=
  (f_law_cell script at_).bind fun y =>
  (rep [(20 : Int), (6 : Int)] (6 : Int)).bind fun l =>
  (cat [(12 : Int)] l).bind fun l_1 =>
  (cat l_1 [(8 : Int)]).bind fun l_2 =>
  (rep [(8 : Int), (8 : Int)] (3 : Int)).bind fun l_3 =>
  (cat l_2 l_3).bind fun l_4 =>
  (f_law_digits y l_4).bind fun y_1 =>
  (f_law_web y_1 most).bind fun y_2 =>
  (f_law_cell script (at_ + (1 : Int))).bind fun y_3 =>
  (rep [(3 : Int)] (7 : Int)).bind fun l_5 =>
  (cat [(10 : Int), (3 : Int)] l_5).bind fun l_6 =>
  (f_law_digits y_3 l_6).bind fun y_4 =>
  (f_law_picture y_4 y_2.1).bind fun y_5 =>
  .ok ((y_2.1, y_2.2, y_5))
def f_law_thread (row : (List Int)) : P (Int × (List (Int × Int)) × (List Int)) :=
  (getI row (0 : Int)).bind fun x =>
  P.bind (.ok (((11 : Int) + x))) fun size : Int =>
  (rng0 (size - (1 : Int))).bind fun r =>
  (lcP (fun k : Int => P.bind ((getI row ((3 : Int) + ((2 : Int) * k))).bind fun x_1 => .ok ((decide ((0 : Int) < x_1)))) fun b => if b then P.bind (.ok ((k, (k + (1 : Int))))) fun y => .ok (some y) else .ok none) r).bind fun l =>
  (getI row (1 : Int)).bind fun x_2 =>
  (modI x_2 size).bind fun m =>
  (getI row (2 : Int)).bind fun x_3 =>
  (modI x_3 size).bind fun m_1 =>
  P.bind (if (decide ((m + (1 : Int)) < m_1)) then
    ((push l (m, m_1)).bind fun known =>
      .ok known)
    else
    .ok l) fun known_1 =>
  (rng0 size).bind fun r_1 =>
  (lcP (fun k_1 : Int => P.bind ((getI row ((4 : Int) + ((2 : Int) * k_1))).bind fun x_4 => .ok (x_4)) fun y => .ok (some y)) r_1).bind fun l_1 =>
  .ok ((size, known_1, l_1))
def f_law_near (size : Int) (lines : (List (Int × Int))) : P (List (List Int)) :=
  (rng0 size).bind fun r =>
  (lcM (fun k : Int => []) r).bind fun l =>
  P.bind (foldP (fun (near : (List (List Int))) (line : (Int × Int)) =>
      (pushAt near line.1 line.2).bind fun near_1 =>
      (pushAt near_1 line.2 line.1).bind fun near_2 =>
      .ok near_2) lines (l : (List (List Int)))) fun near_3 =>
  (lcM (fun row : (List Int) => (srtI row)) near_3).bind fun l_1 =>
  .ok l_1
def f_check_lines (size : Int) (lines : (List (Int × Int))) : P Unit :=
  P.bind (foldP (fun (s : Unit) (x : (Int × (Int × Int))) =>
      if ((!((decide ((0 : Int) ≤ x.2.1) && decide (x.2.1 < size)) && (decide ((0 : Int) ≤ x.2.2) && decide (x.2.2 < size)))) || (decide (x.2.1 = x.2.2))) then
      .ex ⟨2, [x.1]⟩
      else
      .ok ()) (enumI 0 lines) (() : Unit)) fun s_1 =>
  .ok ()
def f_near_masks (size : Int) (lines : (List (Int × Int))) : P (List Int) :=
  (rng0 size).bind fun r =>
  (lcM (fun z : Int => (0 : Int)) r).bind fun l =>
  P.bind (foldP (fun (near : (List Int)) (x : (Int × Int)) =>
      (getI near x.1).bind fun x_1 =>
      (shlI (1 : Int) x.2).bind fun s =>
      (setI near x.1 (bor x_1 s)).bind fun near_1 =>
      (getI near_1 x.2).bind fun x_2 =>
      (shlI (1 : Int) x.1).bind fun s_1 =>
      (setI near_1 x.2 (bor x_2 s_1)).bind fun near_2 =>
      .ok near_2) lines (l : (List Int))) fun near_3 =>
  .ok near_3
def f_places_of (mask : Int) : P (List Int) :=
  P.bind (.ok ([])) fun found : (List Int) =>
  P.bind (whileP (fun s : (Int × (List Int)) => .ok ((!(decide (s.1 = (0 : Int)))))) (fun s : (Int × (List Int)) =>
      P.bind (.ok ((band s.1 (-s.1)))) fun lowest : Int =>
      (push s.2 ((blen lowest) - (1 : Int))).bind fun found_1 =>
      P.bind (.ok ((bxor s.1 lowest))) fun mask_1 : Int =>
      .ok (mask_1, found_1)) WF ((mask, found) : (Int × (List Int)))) fun s_1 =>
  .ok s_1.2
structure Web where
  size : Int
  lines : (List (Int × Int))
  masks : (List Int)
  near : (List (List Int))
  deriving DecidableEq
def f_Web_new (size : Int) (lines : (List (Int × Int))) : P Web :=
  (f_check_lines size lines).bind fun y =>
  (lcM (fun x : (Int × Int) => ((min2 x.1 x.2), (max2 x.1 x.2))) lines).bind fun l =>
  (setSort l).bind fun s =>
  (f_near_masks size s).bind fun y_1 =>
  (lcP (fun mask : Int => P.bind ((f_places_of mask).bind fun y_2 => .ok (y_2)) fun y => .ok (some y)) y_1).bind fun l_1 =>
  .ok { size := size, lines := s, masks := y_1, near := l_1 }
def f_check_picture (size : Int) (picture : (List Int)) : P Unit :=
  P.bind (foldP (fun (s : Unit) (x : (Int × Int)) =>
      if ((decide (size ≤ x.1)) || (!(decide (x.2 ∈ [(0 : Int), (1 : Int), (2 : Int)])))) then
      .ex ⟨3, [x.1]⟩
      else
      .ok ()) (enumI 0 picture) (() : Unit)) fun s_1 =>
  if (decide ((picture.length : Int) < size)) then
  .ex ⟨3, [(picture.length : Int)]⟩
  else
  .ok ()
structure Scene where
  web : Web
  picture : (List Int)
  deriving DecidableEq
def f_Scene_new (web : Web) (picture : (List Int)) : P Scene :=
  (f_check_picture web.size picture).bind fun y =>
  .ok { web := web, picture := picture }
def f_law_back (near : (List (List Int))) (picture : (List Int)) (touched : (List Int)) : P (List Int) :=
  P.bind (.ok ([])) fun earlier : (List Int) =>
  (rng0 (picture.length : Int)).bind fun r =>
  P.bind (foldP (fun (earlier_1 : (List Int)) (place : Int) =>
      (getI picture place).bind fun x =>
      (getI near place).bind fun x_1 =>
      (lcP (fun other : Int => P.bind ((getI picture other).bind fun x_2 => .ok ((decide (x_2 = (2 : Int))))) fun b => if b then P.bind (.ok (other)) fun y => .ok (some y) else .ok none) x_1).bind fun l =>
      P.bind (if ((decide (x = (0 : Int))) && ((decide ((0 : Int) < (l.length : Int))) || (decide (place ∈ touched)))) then
        ((push earlier_1 (2 : Int)).bind fun earlier_2 =>
          .ok earlier_2)
        else
        ((getI [(0 : Int), (0 : Int), (1 : Int)] x).bind fun x_3 =>
          (push earlier_1 x_3).bind fun earlier_3 =>
          .ok earlier_3)) fun earlier_4 =>
      .ok earlier_4) r (earlier : (List Int))) fun earlier_5 =>
  .ok earlier_5
def f_law_mirror (picture : (List Int)) : P (List Int) :=
  (lcP (fun state : Int => P.bind ((getI [(0 : Int), (2 : Int), (1 : Int)] state).bind fun x => .ok (x)) fun y => .ok (some y)) picture).bind fun l =>
  .ok l
def f_law_step (near : (List (List Int))) (picture : (List Int)) (touched : (List Int)) : P (List Int) :=
  P.bind (.ok ([])) fun later : (List Int) =>
  (rng0 (picture.length : Int)).bind fun r =>
  P.bind (foldP (fun (later_1 : (List Int)) (place : Int) =>
      (getI picture place).bind fun x =>
      P.bind (if (decide ((0 : Int) < x)) then
        ((getI [(0 : Int), (2 : Int), (0 : Int)] x).bind fun x_1 =>
          (push later_1 x_1).bind fun later_2 =>
          .ok later_2)
        else
        ((getI near place).bind fun x_2 =>
          (lcP (fun other : Int => P.bind ((getI picture other).bind fun x_3 => .ok ((decide (x_3 = (1 : Int))))) fun b => if b then P.bind (.ok (other)) fun y => .ok (some y) else .ok none) x_2).bind fun l =>
          (push later_1 (b2i ((decide ((0 : Int) < (l.length : Int))) || (decide (place ∈ touched))))).bind fun later_3 =>
          .ok later_3)) fun later_4 =>
      .ok later_4) r (later : (List Int))) fun later_5 =>
  .ok later_5
def f_mirror (scene : Scene) : P Scene :=
  (lcP (fun state : Int => P.bind ((getI [(0 : Int), (2 : Int), (1 : Int)] state).bind fun x => .ok (x)) fun y => .ok (some y)) scene.picture).bind fun l =>
  (f_Scene_new scene.web l).bind fun o =>
  .ok o
def f_masks_of_scene (scene : Scene) : P (Int × Int) :=
  P.bind (foldP (fun (s : (Int × Int)) (x : (Int × Int)) =>
      P.bind (if (decide (x.2 = (1 : Int))) then
        ((shlI (1 : Int) x.1).bind fun s_1 =>
          P.bind (.ok ((bor s.1 s_1))) fun fired : Int =>
          .ok (fired, s.2))
        else
        (P.bind (if (decide (x.2 = (2 : Int))) then
            ((shlI (1 : Int) x.1).bind fun s_2 =>
              P.bind (.ok ((bor s.2 s_2))) fun resting : Int =>
              .ok resting)
            else
            .ok s.2) fun resting_1 =>
          .ok (s.1, resting_1))) fun j =>
      .ok (j.1, j.2)) (enumI 0 scene.picture) (((0 : Int), (0 : Int)) : (Int × Int))) fun s_3 =>
  .ok ((s_3.1, s_3.2))
def f_poked_mask (web : Web) (poked : (List Int)) : P Int :=
  P.bind (foldP (fun (mask : Int) (place : Int) =>
      P.bind (if (decide ((0 : Int) ≤ place) && decide (place < web.size)) then
        ((shlI (1 : Int) place).bind fun s =>
          P.bind (.ok ((bor mask s))) fun mask_1 : Int =>
          .ok mask_1)
        else
        .ok mask) fun mask_2 =>
      .ok mask_2) poked ((0 : Int) : Int)) fun mask_3 =>
  .ok mask_3
def f_spread (near : (List Int)) (mask : Int) : P Int :=
  (f_places_of mask).bind fun y =>
  P.bind (foldP (fun (found : Int) (place : Int) =>
      (getI near place).bind fun x =>
      P.bind (.ok ((bor found x))) fun found_1 : Int =>
      .ok found_1) y ((0 : Int) : Int)) fun found_2 =>
  .ok found_2
def f_next_masks (near : (List Int)) (masks : (Int × Int)) (poked : Int) : P (Int × Int) :=
  (f_spread near masks.1).bind fun y =>
  P.bind (.ok ((bor y poked))) fun reached : Int =>
  .ok (((band reached (bnot (bor masks.1 masks.2))), masks.1))
def f_scene_of_masks (web : Web) (masks : (Int × Int)) : P Scene :=
  (rng0 web.size).bind fun r =>
  (lcP (fun place : Int => P.bind ((shrI masks.1 place).bind fun s => (shrI masks.2 place).bind fun s_1 => .ok (((band s (1 : Int)) + ((2 : Int) * (band s_1 (1 : Int)))))) fun y => .ok (some y)) r).bind fun l =>
  (f_Scene_new web l).bind fun o =>
  .ok o
def f_step (scene : Scene) (poked : (List Int)) : P Scene :=
  (f_masks_of_scene scene).bind fun y =>
  (f_poked_mask scene.web poked).bind fun y_1 =>
  (f_next_masks scene.web.masks y y_1).bind fun y_2 =>
  (f_scene_of_masks scene.web y_2).bind fun y_3 =>
  .ok y_3
def f_back (scene : Scene) (poked : (List Int)) : P Scene :=
  (f_mirror scene).bind fun y =>
  (f_step y poked).bind fun y_1 =>
  (f_mirror y_1).bind fun y_2 =>
  .ok y_2
def f_Web__eq (self : Web) (other : Web) : P Bool :=
  .ok ((true && ((decide (self.size = other.size)) && (decide (self.lines = other.lines)))))
def f_law_whole (value : Int) : P Bool :=
  .ok ((true && (!false)))
def f_law_row (value : (List Int)) (many : Int) : P Bool :=
  (if true then (if (decide ((value.length : Int) = many)) then (lcP (fun x : Int => P.bind ((f_law_whole x).bind fun y => .ok ((!y))) fun b => if b then P.bind (.ok (x)) fun y => .ok (some y) else .ok none) value).bind fun l => .ok ((decide ((l.length : Int) = (0 : Int)))) else .ok false).bind fun t => .ok (t) else .ok false).bind fun t_1 =>
  .ok t_1
def f_law_is_scene (scene : Scene) (web : Web) (picture : (List Int)) : P Bool :=
  (if (!true) then .ok true else (f_Web__eq scene.web web).bind fun q => .ok ((!q))).bind fun t =>
  if t then
  .ok false
  else
  (f_law_row scene.picture (picture.length : Int)).bind fun y =>
  .ok ((y && (decide (scene.picture = picture))))
def f_law_asked (scene : Scene) (web : Web) (near : (List (List Int))) (picture : (List Int)) (poked_places : (List Int)) : P Bool :=
  (f_law_back near picture poked_places).bind fun y =>
  (f_law_mirror picture).bind fun y_1 =>
  (f_law_step near y_1 poked_places).bind fun y_2 =>
  (f_law_mirror y_2).bind fun y_3 =>
  if (!(decide (y = y_3))) then
  .ok false
  else
  (f_back scene poked_places).bind fun y_4 =>
  (f_law_is_scene y_4 web y).bind fun y_5 =>
  if ((!y_5) || (!(decide (poked_places = poked_places)))) then
  .ok false
  else
  (f_back scene []).bind fun y_6 =>
  (f_law_back near picture []).bind fun y_7 =>
  (f_law_is_scene y_6 web y_7).bind fun y_8 =>
  if (!y_8) then
  .ok false
  else
  (cat poked_places poked_places).bind fun l =>
  (f_back scene l).bind fun y_9 =>
  (f_law_is_scene y_9 web y).bind fun y_10 =>
  if (!y_10) then
  .ok false
  else
  (f_law_is_scene scene web picture).bind fun y_11 =>
  (if y_11 then (f_back scene []).bind fun y_12 => (f_law_back near picture []).bind fun y_13 => (f_law_is_scene y_12 web y_13).bind fun y_14 => .ok (y_14) else .ok false).bind fun t =>
  .ok t
end Fr

/-! SP36: the law's own defs, typed (made by mkty.py). -/
namespace P36
open Y Fr
def f_law (script : (List Int)) : P Bool :=
  (f_law_scene script (0 : Int) (7 : Int)).bind fun y =>
  (f_law_cell script (4 : Int)).bind fun y_1 =>
  (rep [(11 : Int)] (6 : Int)).bind fun l =>
  (cat [(12 : Int), (7 : Int)] l).bind fun l_1 =>
  (cat l_1 [(6 : Int)]).bind fun l_2 =>
  (f_law_digits y_1 l_2).bind fun y_2 =>
  (getI y_2 (8 : Int)).bind fun x =>
  P.bind (if (decide (x = (0 : Int))) then
    ((f_law_cell script (3 : Int)).bind fun y_3 =>
      (rep [(5 : Int), (3 : Int)] (60 : Int)).bind fun l_3 =>
      (cat [(50 : Int), (60 : Int), (60 : Int)] l_3).bind fun l_4 =>
      (f_law_digits y_3 l_4).bind fun y_4 =>
      (f_law_thread y_4).bind fun y_5 =>
      .ok y_5)
    else
    .ok y) fun drawn =>
  (getI y_2 (0 : Int)).bind fun x_1 =>
  P.bind (.ok ((drawn.1 * (b2i (decide ((0 : Int) < x_1)))))) fun size : Int =>
  (lcF (fun line : (Int × Int) => (decide ((0 : Int) < size))) (fun line : (Int × Int) => line) drawn.2.1).bind fun l_5 =>
  P.bind (.ok ((slc drawn.2.2 none (some size)))) fun picture : (List Int) =>
  (f_law_near size l_5).bind fun y_6 =>
  (f_Web_new size l_5).bind fun o =>
  (getI y_2 (1 : Int)).bind fun x_2 =>
  (rng0 x_2).bind fun r =>
  (lcP (fun k : Int => P.bind ((getI y_2 ((2 : Int) + k)).bind fun x_3 => .ok ((x_3 - (2 : Int)))) fun y => .ok (some y)) r).bind fun l_6 =>
  (getI y_2 (8 : Int)).bind fun x_4 =>
  P.bind (if (decide (x_4 = (0 : Int))) then
    ((lcM (fun place : Int => ((6 : Int) * place)) l_6).bind fun l_7 =>
      .ok l_7)
    else
    .ok l_6) fun poked_places =>
  (f_Scene_new o picture).bind fun o_1 =>
  (f_law_asked o_1 o y_6 picture poked_places).bind fun y_7 =>
  if (!y_7) then
  .ok false
  else
  (f_law_mirror picture).bind fun y_8 =>
  (f_Scene_new o y_8).bind fun o_2 =>
  (f_back o_2 poked_places).bind fun y_9 =>
  (f_law_back y_6 y_8 poked_places).bind fun y_10 =>
  (f_law_is_scene y_9 o y_10).bind fun y_11 =>
  .ok y_11
end P36

/-! YP36: the defs of the language compute the typed ones (made by mkty.py). -/
namespace P36
open PySem Y Fr
open Z hiding srtI srtP maxI minI insI insP plt rngOk most
def r_Web : Rl Web := fun d w => ∃ d0 d1 d2 d3, d = .obj none 0 [0, 1, 2, 3] [d0, d1, d2, d3] ∧ rI d0 w.size ∧ (rs .T (rP2 rI rI)) d1 w.lines ∧ (rs .T rI) d2 w.masks ∧ (rs .T (rs .T rI)) d3 w.near
theorem fr_c_Web : Fr r_Web r_Web := fun d w ⟨d0, d1, d2, d3, e, h⟩ => by subst e; exact ⟨d0, d1, d2, d3, rfl, h⟩
theorem zf_c_Web : Zf r_Web := fun d w ⟨d0, d1, d2, d3, e, h⟩ => by subst e; rfl
theorem nn_c_Web : NN r_Web := fun d w ⟨d0, d1, d2, d3, e, h⟩ => by subst e; rfl
theorem i_c_Web : IsOb 0 r_Web := fun d w ⟨d0, d1, d2, d3, e, h⟩ => ⟨_, _, e⟩
theorem g_Web_size {w : Web} : ∀ d, r_Web d w → ∃ m c ks ds x, d = .obj m c ks ds ∧ getF 0 ks ds = some x ∧ rI x w.size := fun d ⟨d0, d1, d2, d3, e, h0, h1, h2, h3⟩ => ⟨_, _, _, _, d0, e, rfl, h0⟩
theorem g_Web_lines {w : Web} : ∀ d, r_Web d w → ∃ m c ks ds x, d = .obj m c ks ds ∧ getF 1 ks ds = some x ∧ (rs .T (rP2 rI rI)) x w.lines := fun d ⟨d0, d1, d2, d3, e, h0, h1, h2, h3⟩ => ⟨_, _, _, _, d1, e, rfl, h1⟩
theorem g_Web_masks {w : Web} : ∀ d, r_Web d w → ∃ m c ks ds x, d = .obj m c ks ds ∧ getF 2 ks ds = some x ∧ (rs .T rI) x w.masks := fun d ⟨d0, d1, d2, d3, e, h0, h1, h2, h3⟩ => ⟨_, _, _, _, d2, e, rfl, h2⟩
theorem g_Web__near {w : Web} : ∀ d, r_Web d w → ∃ m c ks ds x, d = .obj m c ks ds ∧ getF 3 ks ds = some x ∧ (rs .T (rs .T rI)) x w.near := fun d ⟨d0, d1, d2, d3, e, h0, h1, h2, h3⟩ => ⟨_, _, _, _, d3, e, rfl, h3⟩
theorem n_c_Web {v0 : Int} {v1 : (List (Int × Int))} {v2 : (List Int)} {v3 : (List (List Int))} {ds : List D} (h : All2 (fun d (p : Pd) => p d) ds [fun d => rI d v0, fun d => (rs .T (rP2 rI rI)) d v1, fun d => (rs .T rI) d v2, fun d => (rs .T (rs .T rI)) d v3]) : r_Web (.obj none 0 [0, 1, 2, 3] ds) { size := v0, lines := v1, masks := v2, near := v3 } := by
  obtain ⟨d0, d1, d2, d3, rfl, h0, h1, h2, h3⟩ := of4 h
  exact ⟨d0, d1, d2, d3, rfl, h0, h1, h2, h3⟩
theorem fu_c_Web : Fu r_Web := fun d d' w ⟨d0, d1, d2, d3, e, h0, h1, h2, h3⟩ ⟨e0, e1, e2, e3, e', k0, k1, k2, k3⟩ => by
  subst e; subst e'
  rw [fu_I _ _ _ h0 k0, (fu_T (fu_P2 fu_I fu_I)) _ _ _ h1 k1, (fu_T fu_I) _ _ _ h2 k2, (fu_T (fu_T fu_I)) _ _ _ h3 k3]
def r_Scene : Rl Scene := fun d w => ∃ d0 d1, d = .obj none 1 [4, 5] [d0, d1] ∧ r_Web d0 w.web ∧ (rs .T rI) d1 w.picture
theorem fr_c_Scene : Fr r_Scene r_Scene := fun d w ⟨d0, d1, e, h⟩ => by subst e; exact ⟨d0, d1, rfl, h⟩
theorem zf_c_Scene : Zf r_Scene := fun d w ⟨d0, d1, e, h⟩ => by subst e; rfl
theorem nn_c_Scene : NN r_Scene := fun d w ⟨d0, d1, e, h⟩ => by subst e; rfl
theorem i_c_Scene : IsOb 1 r_Scene := fun d w ⟨d0, d1, e, h⟩ => ⟨_, _, e⟩
theorem g_Scene_web {w : Scene} : ∀ d, r_Scene d w → ∃ m c ks ds x, d = .obj m c ks ds ∧ getF 4 ks ds = some x ∧ r_Web x w.web := fun d ⟨d0, d1, e, h0, h1⟩ => ⟨_, _, _, _, d0, e, rfl, h0⟩
theorem g_Scene_picture {w : Scene} : ∀ d, r_Scene d w → ∃ m c ks ds x, d = .obj m c ks ds ∧ getF 5 ks ds = some x ∧ (rs .T rI) x w.picture := fun d ⟨d0, d1, e, h0, h1⟩ => ⟨_, _, _, _, d1, e, rfl, h1⟩
theorem n_c_Scene {v0 : Web} {v1 : (List Int)} {ds : List D} (h : All2 (fun d (p : Pd) => p d) ds [fun d => r_Web d v0, fun d => (rs .T rI) d v1]) : r_Scene (.obj none 1 [4, 5] ds) { web := v0, picture := v1 } := by
  obtain ⟨d0, d1, rfl, h0, h1⟩ := of2 h
  exact ⟨d0, d1, rfl, h0, h1⟩
theorem fu_c_Scene : Fu r_Scene := fun d d' w ⟨d0, d1, e, h0, h1⟩ ⟨e0, e1, e', k0, k1⟩ => by
  subst e; subst e'
  rw [fu_c_Web _ _ _ h0 k0, (fu_T fu_I) _ _ _ h1 k1]
theorem gn_wf {wf : Nat} : ∀ d, (Gn wf d).wf = wf
  | 0 => rfl
  | _ + 1 => rfl
/-- _law_cell -/
def C_law_cell (G : Gd) : Prop := ∀ (script : (List Int)) (k : Int), CallOk (G.call 22) [fun d => (rs .R rI) d script, fun d => rI d k] (f_law_cell script k) rI
theorem y_law_cell {G : Gd} (script : (List Int)) (k : Int) : CallOk (runD G f22) [fun d => (rs .R rI) d script, fun d => rI d k] (f_law_cell script k) rI := def_ok rfl rfl (by
  refine run_iteT (ks := []) rfl fz_nil' (t_B ((r_lt (p_slot (r := rI) (v := k) rfl) ((r_len (p_slot (r := (rs .R rI)) (v := script) rfl)).p)).p)) (fun _ => ?_) (fun _ => ?_)
  · refine run_bind fun x h_x => ?_
    exact run_ret (ks := []) rfl fz_nil' (r_idx (p_slot (r := (rs .R rI)) (v := script) rfl) (p_slot (r := rI) (v := k) rfl) h_x zf_I) (fun d h => h)
  refine run_asg (ks := []) rfl fz_nil' (r_int 17) b_name ?_
  refine run_fold (Γb := fun seed cell => [some fun d => (rs .R rI) d script, some fun d => rI d k, some fun d => rI d seed, some fun d => rI d cell]) (ks := [0]) (r := rI) (s0 := ((17 : Int) : Int)) (fun seed : Int => [some fun d => (rs .R rI) d script, some fun d => rI d k, some fun d => rI d seed, none]) rfl (fz_same rfl (fun d => (fr_R fr_I) d _) fz_nil') (it_R fr_I (r_slot (r := (rs .R rI)) (v := script) rfl zf_R)) (wk_k (wk_k (wk_k (wk_d wk_nil)))) (fun seed cell => b_name) (fun seed cell => ?_) fun seed_2 => ?_
  · refine run_asgB (ks := []) rfl fz_nil' (r_modL ((r_intI ((r_add ((r_mulL (p_slot (r := rI) (v := seed) rfl) ((r_int 31).p) (sm_r (by decide))).p) ((r_modL ((r_intI (p_slot (r := rI) (v := cell) rfl)).p) ((r_int 1000003).p) (by decide)).p)).p)).p) ((r_int 1000003).p) (by decide)) (fun _ => b_name) fun seed_1 => ?_
    exact run_nil fun ρ h => (wk_k (wk_k (wk_k (wk_d wk_nil)))) ρ h
  refine run_bind fun m h_m => ?_
  exact run_ret (ks := []) rfl fz_nil' (r_modL ((r_intI ((r_mulL ((r_mul ((r_add (p_slot (r := rI) (v := seed_2) rfl) ((r_int 7).p)).p) ((r_add (p_slot (r := rI) (v := k) rfl) ((r_int 3).p)).p) h_m).p) ((r_int 69621).p) (sm_r (by decide))).p)).p) ((r_int 2147483647).p) (by decide)) (fun d h => h))
theorem o_law_cell (d : Nat) : C_law_cell (Gn WF (d + 1)) := by
  intro script k
  have e : (Gn WF (d + 1)).call 22 = runD (Gn WF (d + 0)) f22 := rfl
  rw [e]
  exact y_law_cell (G := Gn WF (d + 0)) script k
/-- _law_digits -/
def C_law_digits (G : Gd) : Prop := ∀ (cell : Int) (sizes : (List Int)), CallOk (G.call 23) [fun d => rI d cell, fun d => (rs .F rI) d sizes] (f_law_digits cell sizes) (rs .F rI)
theorem y_law_digits {G : Gd} (cell : Int) (sizes : (List Int)) : CallOk (runD G f23) [fun d => rI d cell, fun d => (rs .F rI) d sizes] (f_law_digits cell sizes) (rs .F rI) := def_ok rfl rfl (by
  refine run_asgB (ks := []) rfl fz_nil' (r_lst (xs := ([] : List Int)) (r := rI) a_nil rfl al_nil) (fun _ => b_name) fun row => ?_
  refine run_asg (ks := []) rfl fz_nil' (r_intI (p_slot (r := rI) (v := cell) rfl)) b_name ?_
  refine run_iteT (ks := []) rfl fz_nil' (t_B ((r_ge (p_slot (r := rI) (v := cell) rfl) ((r_powL (n := 18) ((r_int 10).p) ((r_int 18).p) (by decide) rfl).p)).p)) (fun _ => ?_) (fun _ => ?_)
  · refine run_asgB (ks := []) rfl fz_nil' (r_sub (p_slot (r := rI) (v := cell) rfl) ((r_powL (n := 18) ((r_int 10).p) ((r_int 18).p) (by decide) rfl).p)) (fun _ => b_name) fun rest => ?_
    refine run_fold (Γb := fun s size => [some fun d => rI d cell, some fun d => (rs .F rI) d sizes, some fun d => (rs .W rI) d s.1, some fun d => rI d s.2, none, none, some fun d => rI d size, none]) (ks := [1]) (r := rI) (s0 := ((row, rest) : ((List Int) × Int))) (fun s : ((List Int) × Int) => [some fun d => rI d cell, some fun d => (rs .F rI) d sizes, some fun d => (rs .W rI) d s.1, some fun d => rI d s.2, none, none, none, none]) rfl (fz_same rfl (fun d => (fr_F fr_I) d _) fz_nil') (it_L (.inr (.inl rfl)) fr_I (r_slot (r := (rs .F rI)) (v := sizes) rfl zf_F)) (wk_k (wk_k (wk_k (wk_k (wk_d (wk_d (wk_d (wk_d wk_nil)))))))) (fun s size => b_name) (fun s size => ?_) fun s_1 => ?_
    · refine run_bind fun m h_m => ?_
      refine run_bind fun row_1 h_row_1 => ?_
      refine run_app (ks := []) rfl fz_nil' rfl (r_mod ((r_intI (p_slot (r := rI) (v := s.2) rfl)).p) (p_slot (r := rI) (v := size) rfl) h_m) h_row_1 ?_
      refine run_bind fun q h_q => ?_
      refine run_asg (ks := []) rfl fz_nil' (r_div ((r_intI (p_slot (r := rI) (v := s.2) rfl)).p) (p_slot (r := rI) (v := size) rfl) h_q) b_name ?_
      exact run_nil fun ρ h => (wk_k (wk_k (wk_k (wk_k (wk_d (wk_d (wk_d (wk_d wk_nil)))))))) ρ h
    exact run_ret (ks := [2]) rfl (fz_cons (p' := fun d => (rs .F rI) d s_1.1) rfl (fun d => (fr_W fr_I) d _) fz_nil') (r_slot (r := (rs .F rI)) (v := s_1.1) rfl zf_F) (fun d h => h)
  refine run_asgB (ks := []) rfl fz_nil' (r_modL ((r_intI (p_slot (r := rI) (v := cell) rfl)).p) ((r_int 2147483629).p) (by decide)) (fun _ => b_name) fun seed => ?_
  refine run_bind fun r h_r => ?_
  refine run_fold (Γb := fun s_2 k => [some fun d => rI d cell, some fun d => (rs .F rI) d sizes, some fun d => (rs .W rI) d s_2.1, some fun d => rI d cell, some fun d => rI d s_2.2, some fun d => rI d k, none, none]) (ks := []) (r := rI) (s0 := ((row, seed) : ((List Int) × Int))) (fun s_2 : ((List Int) × Int) => [some fun d => rI d cell, some fun d => (rs .F rI) d sizes, some fun d => (rs .W rI) d s_2.1, some fun d => rI d cell, some fun d => rI d s_2.2, none, none, none]) rfl fz_nil' (it_r1 ((r_len (p_slot (r := (rs .F rI)) (v := sizes) rfl)).p) h_r) (wk_k (wk_k (wk_k (wk_k (wk_k (wk_d (wk_d (wk_d wk_nil)))))))) (fun s_2 k => b_name) (fun s_2 k => ?_) fun s_3 => ?_
  · refine run_asgB (ks := []) rfl fz_nil' (r_modL ((r_intI ((r_add ((r_add ((r_mulL (p_slot (r := rI) (v := s_2.2) rfl) ((r_int 48271).p) (sm_r (by decide))).p) ((r_mulL ((r_int 974711).p) (p_slot (r := rI) (v := k) rfl) (sm_l (by decide))).p)).p) ((r_int 12345).p)).p)).p) ((r_int 2147483647).p) (by decide)) (fun _ => b_name) fun seed_1 => ?_
    refine run_bind fun m_1 h_m_1 => ?_
    refine run_asgB (ks := []) rfl fz_nil' (r_modL ((r_intI ((r_mul (p_slot (r := rI) (v := seed_1) rfl) ((r_add ((r_divL (p_slot (r := rI) (v := seed_1) rfl) ((r_int 65537).p) (by decide)).p) ((r_int 3).p)).p) h_m_1).p)).p) ((r_int 2147483629).p) (by decide)) (fun _ => b_name) fun twice => ?_
    refine run_bind fun x h_x => ?_
    refine run_bind fun m_2 h_m_2 => ?_
    refine run_bind fun row_2 h_row_2 => ?_
    refine run_app (ks := []) rfl fz_nil' rfl (r_mod ((r_divL (p_slot (r := rI) (v := twice) rfl) ((r_int 19).p) (by decide)).p) (p_idx (p_slot (r := (rs .F rI)) (v := sizes) rfl) (p_slot (r := rI) (v := k) rfl) h_x) h_m_2) h_row_2 ?_
    exact run_nil fun ρ h => (wk_k (wk_k (wk_k (wk_k (wk_k (wk_d (wk_d (wk_d wk_nil)))))))) ρ h
  exact run_ret (ks := [2]) rfl (fz_cons (p' := fun d => (rs .F rI) d s_3.1) rfl (fun d => (fr_W fr_I) d _) fz_nil') (r_slot (r := (rs .F rI)) (v := s_3.1) rfl zf_F) (fun d h => h))
theorem o_law_digits (d : Nat) : C_law_digits (Gn WF (d + 1)) := by
  intro cell sizes
  have e : (Gn WF (d + 1)).call 23 = runD (Gn WF (d + 0)) f23 := rfl
  rw [e]
  exact y_law_digits (G := Gn WF (d + 0)) cell sizes
/-- _law_web -/
def C_law_web (G : Gd) : Prop := ∀ (row : (List Int)) (most : Int), CallOk (G.call 24) [fun d => (rs .F rI) d row, fun d => rI d most] (f_law_web row most) (rH2 .W rI (rs .F (rP2 rI rI)))
theorem y_law_web {G : Gd} (row : (List Int)) (most : Int) : CallOk (runD G f24) [fun d => (rs .F rI) d row, fun d => rI d most] (f_law_web row most) (rH2 .W rI (rs .F (rP2 rI rI))) := def_ok rfl rfl (by
  refine run_bind fun x h_x => ?_
  refine run_bind fun x_1 h_x_1 => ?_
  refine run_asgB (ks := []) rfl fz_nil' (r_min2 (p_slot (r := rI) (v := most) rfl) (p_idx ((r_lst (a_cons (p := fun d => rI d (5 : Int)) (r_int 5) (fun d h => h) (a_cons (p := fun d => rI d (4 : Int)) (r_int 4) (fun d h => h) (a_cons (p := fun d => rI d (6 : Int)) (r_int 6) (fun d h => h) (a_cons (p := fun d => rI d (3 : Int)) (r_int 3) (fun d h => h) (a_cons (p := fun d => rI d (5 : Int)) (r_int 5) (fun d h => h) (a_cons (p := fun d => rI d (7 : Int)) (r_int 7) (fun d h => h) (a_cons (p := fun d => rI d (4 : Int)) (r_int 4) (fun d h => h) (a_cons (p := fun d => rI d (6 : Int)) (r_int 6) (fun d h => h) (a_cons (p := fun d => rI d (2 : Int)) (r_int 2) (fun d h => h) (a_cons (p := fun d => rI d (5 : Int)) (r_int 5) (fun d h => h) (a_cons (p := fun d => rI d (1 : Int)) (r_int 1) (fun d h => h) (a_cons (p := fun d => rI d (6 : Int)) (r_int 6) (fun d h => h) a_nil)))))))))))) rfl (al_cons (al_cons (al_cons (al_cons (al_cons (al_cons (al_cons (al_cons (al_cons (al_cons (al_cons (al_cons al_nil))))))))))))).p) (p_idx (p_slot (r := (rs .F rI)) (v := row) rfl) ((r_int 0).p) h_x) h_x_1)) (fun _ => b_name) fun size => ?_
  refine run_asgB (ks := []) rfl fz_nil' (r_lst (xs := ([] : List (Int × Int))) (r := (rP2 rI rI)) a_nil rfl al_nil) (fun _ => b_name) fun known => ?_
  refine run_bind fun r h_r => ?_
  refine run_fold (Γb := fun known_1 k => [some fun d => (rs .F rI) d row, some fun d => rI d most, some fun d => rI d size, some fun d => (rs .W (rP2 rI rI)) d known_1, some fun d => rI d k, none, none, none, none]) (ks := []) (r := rI) (s0 := (known : (List (Int × Int)))) (fun known_1 : (List (Int × Int)) => [some fun d => (rs .F rI) d row, some fun d => rI d most, some fun d => rI d size, some fun d => (rs .W (rP2 rI rI)) d known_1, none, none, none, none, none]) rfl fz_nil' (it_r2 ((r_int 1).p) (p_slot (r := rI) (v := size) rfl) h_r) (wk_k (wk_k (wk_k (wk_k (wk_d (wk_d (wk_d (wk_d (wk_d wk_nil))))))))) (fun known_1 k => b_name) (fun known_1 k => ?_) fun known_4 => ?_
  · refine run_bind fun x_2 h_x_2 => ?_
    refine run_bind fun x_3 h_x_3 => ?_
    refine run_asg (ks := []) rfl fz_nil' (r_idx ((r_lst (a_cons (p := fun d => rI d (k - (1 : Int))) (r_sub (p_slot (r := rI) (v := k) rfl) ((r_int 1).p)) (fun d h => h) (a_cons (p := fun d => rI d (k - (1 : Int))) (r_sub (p_slot (r := rI) (v := k) rfl) ((r_int 1).p)) (fun d h => h) (a_cons (p := fun d => rI d (k - (1 : Int))) (r_sub (p_slot (r := rI) (v := k) rfl) ((r_int 1).p)) (fun d h => h) (a_cons (p := fun d => rI d (0 : Int)) (r_int 0) (fun d h => h) (a_cons (p := fun d => rI d (k / (2 : Int))) (r_divL (p_slot (r := rI) (v := k) rfl) ((r_int 2).p) (by decide)) (fun d h => h) (a_cons (p := fun d => rI d (0 : Int)) (r_int 0) (fun d h => h) a_nil)))))) rfl (al_cons (al_cons (al_cons (al_cons (al_cons (al_cons al_nil))))))).p) (p_idx (p_slot (r := (rs .F rI)) (v := row) rfl) ((r_mulL ((r_int 2).p) (p_slot (r := rI) (v := k) rfl) (sm_l (by decide))).p) h_x_2) h_x_3 zf_I) b_name ?_
    refine run_bind fun x_4 h_x_4 => ?_
    refine run_iteJ (fun mate_1 : Int => [some fun d => (rs .F rI) d row, some fun d => rI d most, some fun d => rI d size, some fun d => (rs .W (rP2 rI rI)) d known_1, some fun d => rI d k, none, none, some fun d => rI d mate_1, none]) (ks := []) rfl fz_nil' (t_B ((r_lt (p_idx (p_slot (r := (rs .F rI)) (v := row) rfl) ((r_int 13).p) h_x_4) ((r_int 4).p)).p)) (fun _ => ?_) (fun _ => ?_) fun mate_1 => ?_
    · refine run_asgB (ks := []) rfl fz_nil' (r_sub (p_slot (r := rI) (v := k) rfl) ((r_int 1).p)) (fun _ => b_name) fun mate => ?_
      exact run_nil fun ρ h => (wk_k (wk_k (wk_k (wk_k (wk_k (wk_d (wk_d (wk_k (wk_d wk_nil))))))))) ρ h
    · exact run_nil fun ρ h => (wk_k (wk_k (wk_k (wk_k (wk_k (wk_d (wk_d (wk_k (wk_d wk_nil))))))))) ρ h
    refine run_bind fun x_5 h_x_5 => ?_
    refine run_iteJ (fun known_3 : (List (Int × Int)) => [some fun d => (rs .F rI) d row, some fun d => rI d most, some fun d => rI d size, some fun d => (rs .W (rP2 rI rI)) d known_3, some fun d => rI d k, none, none, some fun d => rI d mate_1, none]) (ks := []) rfl fz_nil' (t_B ((r_lt (p_idx (p_slot (r := (rs .F rI)) (v := row) rfl) ((r_sub ((r_mulL ((r_int 2).p) (p_slot (r := rI) (v := k) rfl) (sm_l (by decide))).p) ((r_int 1).p)).p) h_x_5) ((r_int 19).p)).p)) (fun _ => ?_) (fun _ => ?_) fun known_3 => ?_
    · refine run_bind fun known_2 h_known_2 => ?_
      refine run_app (ks := [7, 4]) rfl (fz_same rfl (fun d => fr_I d _) (fz_same rfl (fun d => fr_I d _) fz_nil')) rfl (r_tupX (f_cons (p := fun d => rI d mate_1) (r_slot (r := rI) (v := mate_1) rfl zf_I) (fun d h => fr_I _ _ h) (f_cons (p := fun d => rI d k) (r_slot (r := rI) (v := k) rfl zf_I) (fun d h => fr_I _ _ h) f_nil)) rfl x_P2) h_known_2 ?_
      exact run_nil fun ρ h => (wk_k (wk_k (wk_k (wk_k (wk_k (wk_d (wk_d (wk_k (wk_d wk_nil))))))))) ρ h
    · exact run_nil fun ρ h => (wk_k (wk_k (wk_k (wk_k (wk_k (wk_d (wk_d (wk_k (wk_d wk_nil))))))))) ρ h
    exact run_nil fun ρ h => (wk_k (wk_k (wk_k (wk_k (wk_d (wk_d (wk_d (wk_d (wk_d wk_nil))))))))) ρ h
  refine run_bind fun t h_t => ?_
  refine run_iteJ (fun known_6 : (List (Int × Int)) => [some fun d => (rs .F rI) d row, some fun d => rI d most, some fun d => rI d size, some fun d => (rs .W (rP2 rI rI)) d known_6, none, none, none, none, none]) (ks := []) rfl fz_nil' (t_B ((r_andM ((r_gt (p_slot (r := rI) (v := size) rfl) ((r_int 2).p)).p) h_t (em_bind fun x_6 h_x_6 => em_ok ((r_lt (p_idx (p_slot (r := (rs .F rI)) (v := row) rfl) ((r_int 13).p) h_x_6) ((r_int 6).p)).p))).p)) (fun _ => ?_) (fun _ => ?_) fun known_6 => ?_
  · refine run_bind fun known_5 h_known_5 => ?_
    refine run_app (ks := []) rfl fz_nil' rfl (r_tupX (f_cons (p := fun d => rI d (0 : Int)) (r_int 0) (fun d h => fr_I _ _ h) (f_cons (p := fun d => rI d (size - (1 : Int))) (r_sub (p_slot (r := rI) (v := size) rfl) ((r_int 1).p)) (fun d h => fr_I _ _ h) f_nil)) rfl x_P2) h_known_5 ?_
    exact run_nil fun ρ h => (wk_k (wk_k (wk_k (wk_k (wk_d (wk_d (wk_d (wk_d (wk_d wk_nil))))))))) ρ h
  · exact run_nil fun ρ h => (wk_k (wk_k (wk_k (wk_k (wk_d (wk_d (wk_d (wk_d (wk_d wk_nil))))))))) ρ h
  refine run_bind fun r_1 h_r_1 => ?_
  refine run_fold (Γb := fun known_7 k_1 => [some fun d => (rs .F rI) d row, some fun d => rI d most, some fun d => rI d size, some fun d => (rs .W (rP2 rI rI)) d known_7, some fun d => rI d k_1, none, none, none, none]) (ks := []) (r := rI) (s0 := (known_6 : (List (Int × Int)))) (fun known_7 : (List (Int × Int)) => [some fun d => (rs .F rI) d row, some fun d => rI d most, some fun d => rI d size, some fun d => (rs .W (rP2 rI rI)) d known_7, none, none, none, none, none]) rfl fz_nil' (it_r1 ((r_int 3).p) h_r_1) (wk_k (wk_k (wk_k (wk_k (wk_d (wk_d (wk_d (wk_d (wk_d wk_nil))))))))) (fun known_7 k_1 => b_name) (fun known_7 k_1 => ?_) fun known_10 => ?_
  · refine run_bind fun x_7 h_x_7 => ?_
    refine run_bind fun m h_m => ?_
    refine run_asg (ks := []) rfl fz_nil' (r_mod (p_idx (p_slot (r := (rs .F rI)) (v := row) rfl) ((r_add ((r_int 14).p) ((r_mulL ((r_int 2).p) (p_slot (r := rI) (v := k_1) rfl) (sm_l (by decide))).p)).p) h_x_7) (p_slot (r := rI) (v := size) rfl) h_m) b_name ?_
    refine run_bind fun x_8 h_x_8 => ?_
    refine run_bind fun m_1 h_m_1 => ?_
    refine run_asg (ks := []) rfl fz_nil' (r_mod (p_idx (p_slot (r := (rs .F rI)) (v := row) rfl) ((r_add ((r_int 15).p) ((r_mulL ((r_int 2).p) (p_slot (r := rI) (v := k_1) rfl) (sm_l (by decide))).p)).p) h_x_8) (p_slot (r := rI) (v := size) rfl) h_m_1) b_name ?_
    refine run_bind fun t_1 h_t_1 => ?_
    refine run_iteJ (fun known_9 : (List (Int × Int)) => [some fun d => (rs .F rI) d row, some fun d => rI d most, some fun d => rI d size, some fun d => (rs .W (rP2 rI rI)) d known_9, some fun d => rI d k_1, none, some fun d => rI d m, none, some fun d => rI d m_1]) (ks := []) rfl fz_nil' (t_B ((r_andM ((r_lt (p_slot (r := rI) (v := m) rfl) (p_slot (r := rI) (v := m_1) rfl)).p) h_t_1 (em_bind fun x_9 h_x_9 => em_ok ((r_gt (p_idx (p_slot (r := (rs .F rI)) (v := row) rfl) ((r_add ((r_int 15).p) ((r_mulL ((r_int 2).p) (p_slot (r := rI) (v := k_1) rfl) (sm_l (by decide))).p)).p) h_x_9) ((r_int 2).p)).p))).p)) (fun _ => ?_) (fun _ => ?_) fun known_9 => ?_
    · refine run_bind fun known_8 h_known_8 => ?_
      refine run_app (ks := [6, 8]) rfl (fz_same rfl (fun d => fr_I d _) (fz_same rfl (fun d => fr_I d _) fz_nil')) rfl (r_tupX (f_cons (p := fun d => rI d m) (r_slot (r := rI) (v := m) rfl zf_I) (fun d h => fr_I _ _ h) (f_cons (p := fun d => rI d m_1) (r_slot (r := rI) (v := m_1) rfl zf_I) (fun d h => fr_I _ _ h) f_nil)) rfl x_P2) h_known_8 ?_
      exact run_nil fun ρ h => (wk_k (wk_k (wk_k (wk_k (wk_k (wk_d (wk_k (wk_d (wk_k wk_nil))))))))) ρ h
    · exact run_nil fun ρ h => (wk_k (wk_k (wk_k (wk_k (wk_k (wk_d (wk_k (wk_d (wk_k wk_nil))))))))) ρ h
    exact run_nil fun ρ h => (wk_k (wk_k (wk_k (wk_k (wk_d (wk_d (wk_d (wk_d (wk_d wk_nil))))))))) ρ h
  refine run_asgB (ks := []) rfl fz_nil' (r_lst (xs := ([] : List (Int × Int))) (r := (rP2 rI rI)) a_nil rfl al_nil) (fun _ => b_name) fun lines => ?_
  refine run_bind fun r_2 h_r_2 => ?_
  refine run_fold (Γb := fun lines_1 a => [some fun d => (rs .F rI) d row, some fun d => rI d most, some fun d => rI d size, some fun d => (rs .W (rP2 rI rI)) d known_10, none, some fun d => (rs .W (rP2 rI rI)) d lines_1, some fun d => rI d a, none, none]) (ks := []) (r := rI) (s0 := (lines : (List (Int × Int)))) (fun lines_1 : (List (Int × Int)) => [some fun d => (rs .F rI) d row, some fun d => rI d most, some fun d => rI d size, some fun d => (rs .W (rP2 rI rI)) d known_10, none, some fun d => (rs .W (rP2 rI rI)) d lines_1, none, none, none]) rfl fz_nil' (it_r1 (p_slot (r := rI) (v := size) rfl) h_r_2) (wk_k (wk_k (wk_k (wk_k (wk_d (wk_k (wk_d (wk_d (wk_d wk_nil))))))))) (fun lines_1 a => b_name) (fun lines_1 a => ?_) fun lines_6 => ?_
  · refine run_bind fun r_3 h_r_3 => ?_
    refine run_fold (Γb := fun lines_2 b => [some fun d => (rs .F rI) d row, some fun d => rI d most, some fun d => rI d size, some fun d => (rs .W (rP2 rI rI)) d known_10, none, some fun d => (rs .W (rP2 rI rI)) d lines_2, some fun d => rI d a, none, some fun d => rI d b]) (ks := []) (r := rI) (s0 := (lines_1 : (List (Int × Int)))) (fun lines_2 : (List (Int × Int)) => [some fun d => (rs .F rI) d row, some fun d => rI d most, some fun d => rI d size, some fun d => (rs .W (rP2 rI rI)) d known_10, none, some fun d => (rs .W (rP2 rI rI)) d lines_2, some fun d => rI d a, none, none]) rfl fz_nil' (it_r2 ((r_add (p_slot (r := rI) (v := a) rfl) ((r_int 1).p)).p) (p_slot (r := rI) (v := size) rfl) h_r_3) (wk_k (wk_k (wk_k (wk_k (wk_d (wk_k (wk_k (wk_d (wk_d wk_nil))))))))) (fun lines_2 b => b_name) (fun lines_2 b => ?_) fun lines_5 => ?_
    · refine run_iteJ (fun lines_4 : (List (Int × Int)) => [some fun d => (rs .F rI) d row, some fun d => rI d most, some fun d => rI d size, some fun d => (rs .W (rP2 rI rI)) d known_10, none, some fun d => (rs .W (rP2 rI rI)) d lines_4, some fun d => rI d a, none, some fun d => rI d b]) (ks := [6, 8]) rfl (fz_same rfl (fun d => fr_I d _) (fz_same rfl (fun d => fr_I d _) fz_nil')) (t_B ((r_in (int_L (.inl rfl) (dat_P2 dat_I dat_I) (dat_P2 dat_I dat_I) (eqf_2 eqf_I eqf_I) (by decide) (by decide)) ((r_tupX (f_cons (p := fun d => rI d a) (r_slot (r := rI) (v := a) rfl zf_I) (fun d h => fr_I _ _ h) (f_cons (p := fun d => rI d b) (r_slot (r := rI) (v := b) rfl zf_I) (fun d h => fr_I _ _ h) f_nil)) rfl x_P2).p) (p_slot (r := (rs .W (rP2 rI rI))) (v := known_10) rfl)).p)) (fun _ => ?_) (fun _ => ?_) fun lines_4 => ?_
      · refine run_bind fun lines_3 h_lines_3 => ?_
        refine run_app (ks := [6, 8]) rfl (fz_same rfl (fun d => fr_I d _) (fz_same rfl (fun d => fr_I d _) fz_nil')) rfl (r_tupX (f_cons (p := fun d => rI d a) (r_slot (r := rI) (v := a) rfl zf_I) (fun d h => fr_I _ _ h) (f_cons (p := fun d => rI d b) (r_slot (r := rI) (v := b) rfl zf_I) (fun d h => fr_I _ _ h) f_nil)) rfl x_P2) h_lines_3 ?_
        exact run_nil fun ρ h => (wk_k (wk_k (wk_k (wk_k (wk_d (wk_k (wk_k (wk_d (wk_k wk_nil))))))))) ρ h
      · exact run_nil fun ρ h => (wk_k (wk_k (wk_k (wk_k (wk_d (wk_k (wk_k (wk_d (wk_k wk_nil))))))))) ρ h
      exact run_nil fun ρ h => (wk_k (wk_k (wk_k (wk_k (wk_d (wk_k (wk_k (wk_d (wk_d wk_nil))))))))) ρ h
    exact run_nil fun ρ h => (wk_k (wk_k (wk_k (wk_k (wk_d (wk_k (wk_d (wk_d (wk_d wk_nil))))))))) ρ h
  exact run_ret (ks := [2, 5]) rfl (fz_same rfl (fun d => fr_I d _) (fz_cons (p' := fun d => (rs .F (rP2 rI rI)) d lines_6) rfl (fun d => (fr_W fr_P2) d _) fz_nil')) (r_lstX (a_cons (p := fun d => rI d size) (r_slot (r := rI) (v := size) rfl zf_I) (fun d h => h) (a_cons (p := fun d => (rs .F (rP2 rI rI)) d lines_6) (r_slot (r := (rs .F (rP2 rI rI))) (v := lines_6) rfl zf_F) (fun d h => h) a_nil)) rfl x_H2) (fun d h => h))
theorem o_law_web (d : Nat) : C_law_web (Gn WF (d + 1)) := by
  intro row most
  have e : (Gn WF (d + 1)).call 24 = runD (Gn WF (d + 0)) f24 := rfl
  rw [e]
  exact y_law_web (G := Gn WF (d + 0)) row most
/-- _law_picture -/
def C_law_picture (G : Gd) : Prop := ∀ (row : (List Int)) (size : Int), CallOk (G.call 25) [fun d => (rs .F rI) d row, fun d => rI d size] (f_law_picture row size) (rs .T rI)
theorem y_law_picture {G : Gd} (row : (List Int)) (size : Int) : CallOk (runD G f25) [fun d => (rs .F rI) d row, fun d => rI d size] (f_law_picture row size) (rs .T rI) := def_ok rfl rfl (by
  refine run_bind fun x h_x => ?_
  refine run_bind fun t h_t => ?_
  refine run_iteT (ks := []) rfl fz_nil' (t_B ((r_andM ((r_ge (p_idx (p_slot (r := (rs .F rI)) (v := row) rfl) ((r_int 0).p) h_x) ((r_int 4).p)).p) h_t (em_bind fun x_1 h_x_1 => em_ok ((r_le (p_idx (p_slot (r := (rs .F rI)) (v := row) rfl) ((r_int 0).p) h_x_1) ((r_int 7).p)).p))).p)) (fun _ => ?_) (fun _ => ?_)
  · refine run_bind fun r h_r => ?_
    refine run_bind fun l h_l => ?_
    exact run_ret (ks := []) rfl fz_nil' (r_tuple ((r_lcP (r := rI) (r' := rI) (f := fun k : Int => (getI row (1 : Int)).bind fun x_2 => .ok (((k + x_2) % (3 : Int)))) (Γb := fun k => [some fun d => (rs .F rI) d row, some fun d => rI d size, some fun d => rI d k]) (it_r1 (p_slot (r := rI) (v := size) rfl) h_r) (fun k => b_name) (fun k => em_bind fun x_2 h_x_2 => em_ok (r_modL ((r_intI ((r_add (p_slot (r := rI) (v := k) rfl) (p_idx (p_slot (r := (rs .F rI)) (v := row) rfl) ((r_int 1).p) h_x_2)).p)).p) ((r_int 3).p) (by decide))) h_l).p) zf_I) (fun d h => h)
  refine run_bind fun x_3 h_x_3 => ?_
  refine run_iteT (ks := []) rfl fz_nil' (t_B ((r_eq eqt_I (p_idx (p_slot (r := (rs .F rI)) (v := row) rfl) ((r_int 0).p) h_x_3) ((r_int 8).p)).p)) (fun _ => ?_) (fun _ => ?_)
  · refine run_bind fun r_1 h_r_1 => ?_
    refine run_bind fun l_1 h_l_1 => ?_
    exact run_ret (ks := []) rfl fz_nil' (r_tuple ((r_lcP (r := rI) (r' := rI) (f := fun k_1 : Int => (getI row (1 : Int)).bind fun x_4 => (getI row (2 : Int)).bind fun x_5 => .ok ((((k_1 + x_4) % (3 : Int)) * (b2i (!(decide (k_1 = (x_5 + (1 : Int))))))))) (Γb := fun k_1 => [some fun d => (rs .F rI) d row, some fun d => rI d size, some fun d => rI d k_1]) (it_r1 (p_slot (r := rI) (v := size) rfl) h_r_1) (fun k_1 => b_name) (fun k_1 => em_bind fun x_4 h_x_4 => em_bind fun x_5 h_x_5 => em_ok (r_mulL ((r_modL ((r_intI ((r_add (p_slot (r := rI) (v := k_1) rfl) (p_idx (p_slot (r := (rs .F rI)) (v := row) rfl) ((r_int 1).p) h_x_4)).p)).p) ((r_int 3).p) (by decide)).p) ((r_intB ((r_ne eqt_I (p_slot (r := rI) (v := k_1) rfl) ((r_add (p_idx (p_slot (r := (rs .F rI)) (v := row) rfl) ((r_int 2).p) h_x_5) ((r_int 1).p)).p)).p)).p) (sm_r (sm_b _)))) h_l_1).p) zf_I) (fun d h => h)
  refine run_bind fun x_6 h_x_6 => ?_
  refine run_iteT (ks := []) rfl fz_nil' (t_B ((r_eq eqt_I (p_idx (p_slot (r := (rs .F rI)) (v := row) rfl) ((r_int 0).p) h_x_6) ((r_int 9).p)).p)) (fun _ => ?_) (fun _ => ?_)
  · refine run_bind fun r_2 h_r_2 => ?_
    refine run_bind fun l_2 h_l_2 => ?_
    exact run_ret (ks := []) rfl fz_nil' (r_tuple ((r_lcP (r := rI) (r' := rI) (f := fun k_2 : Int => (getI row (1 : Int)).bind fun x_7 => .ok ((b2i (decide (k_2 = x_7))))) (Γb := fun k_2 => [some fun d => (rs .F rI) d row, some fun d => rI d size, some fun d => rI d k_2]) (it_r1 (p_slot (r := rI) (v := size) rfl) h_r_2) (fun k_2 => b_name) (fun k_2 => em_bind fun x_7 h_x_7 => em_ok (r_intB ((r_eq eqt_I (p_slot (r := rI) (v := k_2) rfl) (p_idx (p_slot (r := (rs .F rI)) (v := row) rfl) ((r_int 1).p) h_x_7)).p))) h_l_2).p) zf_I) (fun d h => h)
  refine run_bind fun r_3 h_r_3 => ?_
  refine run_bind fun l_3 h_l_3 => ?_
  exact run_ret (ks := []) rfl fz_nil' (r_tuple ((r_lcP (r := rI) (r' := rI) (f := fun k_3 : Int => (getI row ((2 : Int) + k_3)).bind fun x_8 => .ok (x_8)) (Γb := fun k_3 => [some fun d => (rs .F rI) d row, some fun d => rI d size, some fun d => rI d k_3]) (it_r1 (p_slot (r := rI) (v := size) rfl) h_r_3) (fun k_3 => b_name) (fun k_3 => em_bind fun x_8 h_x_8 => em_ok (r_idx (p_slot (r := (rs .F rI)) (v := row) rfl) ((r_add ((r_int 2).p) (p_slot (r := rI) (v := k_3) rfl)).p) h_x_8 zf_I)) h_l_3).p) zf_I) (fun d h => h))
theorem o_law_picture (d : Nat) : C_law_picture (Gn WF (d + 1)) := by
  intro row size
  have e : (Gn WF (d + 1)).call 25 = runD (Gn WF (d + 0)) f25 := rfl
  rw [e]
  exact y_law_picture (G := Gn WF (d + 0)) row size
/-- _law_scene -/
def C_law_scene (G : Gd) : Prop := ∀ (script : (List Int)) (at_ : Int) (most : Int), CallOk (G.call 26) [fun d => (rs .R rI) d script, fun d => rI d at_, fun d => rI d most] (f_law_scene script at_ most) (rH3 .W rI (rs .F (rP2 rI rI)) (rs .T rI))
theorem y_law_scene {G : Gd} (c_law_cell : C_law_cell G) (c_law_digits : C_law_digits G) (c_law_web : C_law_web G) (c_law_picture : C_law_picture G) (script : (List Int)) (at_ : Int) (most : Int) : CallOk (runD G f26) [fun d => (rs .R rI) d script, fun d => rI d at_, fun d => rI d most] (f_law_scene script at_ most) (rH3 .W rI (rs .F (rP2 rI rI)) (rs .T rI)) := def_ok rfl rfl (by
  refine run_bind fun y h_y => ?_
  refine run_bind fun l h_l => ?_
  refine run_bind fun l_1 h_l_1 => ?_
  refine run_bind fun l_2 h_l_2 => ?_
  refine run_bind fun l_3 h_l_3 => ?_
  refine run_bind fun l_4 h_l_4 => ?_
  refine run_bind fun y_1 h_y_1 => ?_
  refine run_bind fun y_2 h_y_2 => ?_
  refine run_asg (ks := [0, 1, 2]) rfl (fz_same rfl (fun d => (fr_R fr_I) d _) (fz_same rfl (fun d => fr_I d _) (fz_same rfl (fun d => fr_I d _) fz_nil'))) (r_call (c_law_web y_1 most) (f_cons (p := fun d => (rs .F rI) d y_1) (r_call (c_law_digits y l_4) (f_cons (p := fun d => rI d y) (r_call (c_law_cell script at_) (f_cons (p := fun d => (rs .R rI) d script) (r_slot (r := (rs .R rI)) (v := script) rfl zf_R) (fun d h => (fr_R fr_I) _ _ h) (f_cons (p := fun d => rI d at_) (r_slot (r := rI) (v := at_) rfl zf_I) (fun d h => fr_I _ _ h) f_nil)) h_y) (fun d h => fr_I _ _ h) (f_cons (p := fun d => (rs .F rI) d l_4) (r_cat (.inl rfl) (.inl rfl) ((r_cat (.inl rfl) (.inl rfl) ((r_cat (.inl rfl) (.inl rfl) ((r_lst (a_cons (p := fun d => rI d (12 : Int)) (r_int 12) (fun d h => h) a_nil) rfl (al_cons al_nil)).p) ((r_rep ((r_lst (a_cons (p := fun d => rI d (20 : Int)) (r_int 20) (fun d h => h) (a_cons (p := fun d => rI d (6 : Int)) (r_int 6) (fun d h => h) a_nil)) rfl (al_cons (al_cons al_nil))).p) ((r_int 6).p) zf_I h_l).p) zf_I h_l_1).p) ((r_lst (a_cons (p := fun d => rI d (8 : Int)) (r_int 8) (fun d h => h) a_nil) rfl (al_cons al_nil)).p) zf_I h_l_2).p) ((r_rep ((r_lst (a_cons (p := fun d => rI d (8 : Int)) (r_int 8) (fun d h => h) (a_cons (p := fun d => rI d (8 : Int)) (r_int 8) (fun d h => h) a_nil)) rfl (al_cons (al_cons al_nil))).p) ((r_int 3).p) zf_I h_l_3).p) zf_I h_l_4) (fun d h => (fr_W fr_I) _ _ h) f_nil)) h_y_1) (fun d h => (fr_F fr_I) _ _ h) (f_cons (p := fun d => rI d most) (r_slot (r := rI) (v := most) rfl zf_I) (fun d h => fr_I _ _ h) f_nil)) h_y_2) b_name ?_
  refine run_bind fun y_3 h_y_3 => ?_
  refine run_bind fun l_5 h_l_5 => ?_
  refine run_bind fun l_6 h_l_6 => ?_
  refine run_bind fun y_4 h_y_4 => ?_
  refine run_bind fun y_5 h_y_5 => ?_
  refine run_asg (ks := [0]) rfl (fz_same rfl (fun d => (fr_R fr_I) d _) fz_nil') (r_call (c_law_picture y_4 y_2.1) (f_cons (p := fun d => (rs .F rI) d y_4) (r_call (c_law_digits y_3 l_6) (f_cons (p := fun d => rI d y_3) (r_call (c_law_cell script (at_ + (1 : Int))) (f_cons (p := fun d => (rs .R rI) d script) (r_slot (r := (rs .R rI)) (v := script) rfl zf_R) (fun d h => (fr_R fr_I) _ _ h) (f_cons (p := fun d => rI d (at_ + (1 : Int))) (r_add (p_slot (r := rI) (v := at_) rfl) ((r_int 1).p)) (fun d h => fr_I _ _ h) f_nil)) h_y_3) (fun d h => fr_I _ _ h) (f_cons (p := fun d => (rs .F rI) d l_6) (r_cat (.inl rfl) (.inl rfl) ((r_lst (a_cons (p := fun d => rI d (10 : Int)) (r_int 10) (fun d h => h) (a_cons (p := fun d => rI d (3 : Int)) (r_int 3) (fun d h => h) a_nil)) rfl (al_cons (al_cons al_nil))).p) ((r_rep ((r_lst (a_cons (p := fun d => rI d (3 : Int)) (r_int 3) (fun d h => h) a_nil) rfl (al_cons al_nil)).p) ((r_int 7).p) zf_I h_l_5).p) zf_I h_l_6) (fun d h => (fr_W fr_I) _ _ h) f_nil)) h_y_4) (fun d h => (fr_F fr_I) _ _ h) (f_cons (p := fun d => rI d y_2.1) (r_it (p_slot (r := (rH2 .W rI (rs .F (rP2 rI rI)))) (v := y_2) rfl) iH2_0 zf_I) (fun d h => fr_I _ _ h) f_nil)) h_y_5) b_name ?_
  exact run_ret (ks := [4]) rfl (fz_same rfl (fun d => fr_T d _) fz_nil') (r_lstX (a_cons (p := fun d => rI d y_2.1) (r_it (p_slot (r := (rH2 .W rI (rs .F (rP2 rI rI)))) (v := y_2) rfl) iH2_0 zf_I) (fun d h => h) (a_cons (p := fun d => (rs .F (rP2 rI rI)) d y_2.2) (r_it (p_slot (r := (rH2 .W rI (rs .F (rP2 rI rI)))) (v := y_2) rfl) iH2_1 zf_F) (fun d h => h) (a_cons (p := fun d => (rs .T rI) d y_5) (r_slot (r := (rs .T rI)) (v := y_5) rfl zf_T) (fun d h => h) a_nil))) rfl x_H3) (fun d h => h))
theorem o_law_scene (d : Nat) : C_law_scene (Gn WF (d + 2)) := by
  intro script at_ most
  have e : (Gn WF (d + 2)).call 26 = runD (Gn WF (d + 1)) f26 := rfl
  rw [e]
  exact y_law_scene (G := Gn WF (d + 1)) (o_law_cell (d + 0)) (o_law_digits (d + 0)) (o_law_web (d + 0)) (o_law_picture (d + 0)) script at_ most
/-- _law_thread -/
def C_law_thread (G : Gd) : Prop := ∀ (row : (List Int)), CallOk (G.call 33) [fun d => (rs .F rI) d row] (f_law_thread row) (rH3 .W rI (rs .F (rP2 rI rI)) (rs .T rI))
theorem y_law_thread {G : Gd} (row : (List Int)) : CallOk (runD G f33) [fun d => (rs .F rI) d row] (f_law_thread row) (rH3 .W rI (rs .F (rP2 rI rI)) (rs .T rI)) := def_ok rfl rfl (by
  refine run_bind fun x h_x => ?_
  refine run_asgB (ks := []) rfl fz_nil' (r_add ((r_int 11).p) (p_idx (p_slot (r := (rs .F rI)) (v := row) rfl) ((r_int 0).p) h_x)) (fun _ => b_name) fun size => ?_
  refine run_bind fun r h_r => ?_
  refine run_bind fun l h_l => ?_
  refine run_asg (ks := [5]) rfl (fz_skip rfl fz_nil') (r_lcPF (r := rI) (r' := (rP2 rI rI)) (f := fun k : Int => .ok ((k, (k + (1 : Int))))) (ct := fun k : Int => (getI row ((3 : Int) + ((2 : Int) * k))).bind fun x_1 => .ok ((decide ((0 : Int) < x_1)))) (Γb := fun k => [some fun d => (rs .F rI) d row, some fun d => rI d size, none, none, none, some fun d => rI d k]) (it_r1 ((r_sub (p_slot (r := rI) (v := size) rfl) ((r_int 1).p)).p) h_r) (fun k => b_name) (fun k => em_bind fun x_1 h_x_1 => em_ok (t_B ((r_gt (p_idx (p_slot (r := (rs .F rI)) (v := row) rfl) ((r_add ((r_int 3).p) ((r_mulL ((r_int 2).p) (p_slot (r := rI) (v := k) rfl) (sm_l (by decide))).p)).p) h_x_1) ((r_int 0).p)).p))) (fun k => em_ok (r_tupX (f_cons (p := fun d => rI d k) (r_slot (r := rI) (v := k) rfl zf_I) (fun d h => fr_I _ _ h) (f_cons (p := fun d => rI d (k + (1 : Int))) (r_add (p_slot (r := rI) (v := k) rfl) ((r_int 1).p)) (fun d h => fr_I _ _ h) f_nil)) rfl x_P2)) h_l) b_name ?_
  refine run_bind fun x_2 h_x_2 => ?_
  refine run_bind fun m h_m => ?_
  refine run_asg (ks := []) rfl fz_nil' (r_mod (p_idx (p_slot (r := (rs .F rI)) (v := row) rfl) ((r_int 1).p) h_x_2) (p_slot (r := rI) (v := size) rfl) h_m) b_name ?_
  refine run_bind fun x_3 h_x_3 => ?_
  refine run_bind fun m_1 h_m_1 => ?_
  refine run_asg (ks := []) rfl fz_nil' (r_mod (p_idx (p_slot (r := (rs .F rI)) (v := row) rfl) ((r_int 2).p) h_x_3) (p_slot (r := rI) (v := size) rfl) h_m_1) b_name ?_
  refine run_iteJ (fun known_1 : (List (Int × Int)) => [some fun d => (rs .F rI) d row, some fun d => rI d size, some fun d => (rs .W (rP2 rI rI)) d known_1, some fun d => rI d m, some fun d => rI d m_1, none]) (ks := []) rfl fz_nil' (t_B ((r_lt ((r_add (p_slot (r := rI) (v := m) rfl) ((r_int 1).p)).p) (p_slot (r := rI) (v := m_1) rfl)).p)) (fun _ => ?_) (fun _ => ?_) fun known_1 => ?_
  · refine run_bind fun known h_known => ?_
    refine run_app (ks := [3, 4]) rfl (fz_same rfl (fun d => fr_I d _) (fz_same rfl (fun d => fr_I d _) fz_nil')) rfl (r_tupX (f_cons (p := fun d => rI d m) (r_slot (r := rI) (v := m) rfl zf_I) (fun d h => fr_I _ _ h) (f_cons (p := fun d => rI d m_1) (r_slot (r := rI) (v := m_1) rfl zf_I) (fun d h => fr_I _ _ h) f_nil)) rfl x_P2) h_known ?_
    exact run_nil fun ρ h => (wk_k (wk_k (wk_k (wk_k (wk_k (wk_d wk_nil)))))) ρ h
  · exact run_nil fun ρ h => (wk_k (wk_k (wk_k (wk_k (wk_k (wk_d wk_nil)))))) ρ h
  refine run_bind fun r_1 h_r_1 => ?_
  refine run_bind fun l_1 h_l_1 => ?_
  exact run_ret (ks := [1, 2]) rfl (fz_same rfl (fun d => fr_I d _) (fz_cons (p' := fun d => (rs .F (rP2 rI rI)) d known_1) rfl (fun d => (fr_W fr_P2) d _) fz_nil')) (r_lstX (a_cons (p := fun d => rI d size) (r_slot (r := rI) (v := size) rfl zf_I) (fun d h => h) (a_cons (p := fun d => (rs .F (rP2 rI rI)) d known_1) (r_slot (r := (rs .F (rP2 rI rI))) (v := known_1) rfl zf_F) (fun d h => h) (a_cons (p := fun d => (rs .T rI) d l_1) (r_tuple ((r_lcP (r := rI) (r' := rI) (f := fun k_1 : Int => (getI row ((4 : Int) + ((2 : Int) * k_1))).bind fun x_4 => .ok (x_4)) (Γb := fun k_1 => [some fun d => (rs .F rI) d row, some fun d => rI d size, some fun d => (rs .F (rP2 rI rI)) d known_1, some fun d => rI d m, some fun d => rI d m_1, some fun d => rI d k_1]) (it_r1 (p_slot (r := rI) (v := size) rfl) h_r_1) (fun k_1 => b_name) (fun k_1 => em_bind fun x_4 h_x_4 => em_ok (r_idx (p_slot (r := (rs .F rI)) (v := row) rfl) ((r_add ((r_int 4).p) ((r_mulL ((r_int 2).p) (p_slot (r := rI) (v := k_1) rfl) (sm_l (by decide))).p)).p) h_x_4 zf_I)) h_l_1).p) zf_I) (fun d h => h) a_nil))) rfl x_H3) (fun d h => h))
theorem o_law_thread (d : Nat) : C_law_thread (Gn WF (d + 1)) := by
  intro row
  have e : (Gn WF (d + 1)).call 33 = runD (Gn WF (d + 0)) f33 := rfl
  rw [e]
  exact y_law_thread (G := Gn WF (d + 0)) row
/-- _law_near -/
def C_law_near (G : Gd) : Prop := ∀ (size : Int) (lines : (List (Int × Int))), CallOk (G.call 27) [fun d => rI d size, fun d => (rs .F (rP2 rI rI)) d lines] (f_law_near size lines) (rs .W (rs .W rI))
theorem y_law_near {G : Gd} (size : Int) (lines : (List (Int × Int))) : CallOk (runD G f27) [fun d => rI d size, fun d => (rs .F (rP2 rI rI)) d lines] (f_law_near size lines) (rs .W (rs .W rI)) := def_ok rfl rfl (by
  refine run_bind fun r h_r => ?_
  refine run_bind fun l h_l => ?_
  refine run_asg (ks := []) rfl fz_nil' (r_lcM (r := rI) (Γb := fun k => [some fun d => rI d size, some fun d => (rs .F (rP2 rI rI)) d lines, none, none, some fun d => rI d k, none]) (it_r1 (p_slot (r := rI) (v := size) rfl) h_r) (fun k => b_name) (fun k => r_lst (xs := ([] : List Int)) (r := rI) a_nil rfl al_nil) h_l) b_name ?_
  refine run_fold (Γb := fun near line => [some fun d => rI d size, some fun d => (rs .F (rP2 rI rI)) d lines, some fun d => (rs .W (rs .W rI)) d near, some fun d => (rP2 rI rI) d line, none, none]) (ks := [1]) (r := (rP2 rI rI)) (s0 := (l : (List (List Int)))) (fun near : (List (List Int)) => [some fun d => rI d size, some fun d => (rs .F (rP2 rI rI)) d lines, some fun d => (rs .W (rs .W rI)) d near, none, none, none]) rfl (fz_same rfl (fun d => (fr_F fr_P2) d _) fz_nil') (it_L (.inr (.inl rfl)) fr_P2 (r_slot (r := (rs .F (rP2 rI rI))) (v := lines) rfl zf_F)) (wk_k (wk_k (wk_k (wk_d (wk_d (wk_d wk_nil)))))) (fun near line => b_name) (fun near line => ?_) fun near_3 => ?_
  · refine run_bind fun near_1 h_near_1 => ?_
    refine run_app2 (ks := []) rfl fz_nil' rfl (r_it (p_slot (r := (rP2 rI rI)) (v := line) rfl) iP2_1 zf_I) (p_it (p_slot (r := (rP2 rI rI)) (v := line) rfl) iP2_0) h_near_1 zf_I ?_
    refine run_bind fun near_2 h_near_2 => ?_
    refine run_app2 (ks := []) rfl fz_nil' rfl (r_it (p_slot (r := (rP2 rI rI)) (v := line) rfl) iP2_0 zf_I) (p_it (p_slot (r := (rP2 rI rI)) (v := line) rfl) iP2_1) h_near_2 zf_I ?_
    exact run_nil fun ρ h => (wk_k (wk_k (wk_k (wk_d (wk_d (wk_d wk_nil)))))) ρ h
  refine run_bind fun l_1 h_l_1 => ?_
  exact run_ret (ks := [2]) rfl (fz_cons (p' := fun d => (rs .F (rs .F rI)) d near_3) rfl (fun d => (fr_W (fr_W fr_I)) d _) fz_nil') (r_lcM (r := (rs .F rI)) (Γb := fun row => [some fun d => rI d size, some fun d => (rs .F (rP2 rI rI)) d lines, some fun d => (rs .F (rs .F rI)) d near_3, none, none, some fun d => (rs .F rI) d row]) (it_L (.inr (.inl rfl)) (fr_F fr_I) (r_slot (r := (rs .F (rs .F rI))) (v := near_3) rfl zf_F)) (fun row => b_name) (fun row => r_sorted (.inr (.inl rfl)) (p_slot (r := (rs .F rI)) (v := row) rfl)) h_l_1) (fun d h => h))
theorem o_law_near (d : Nat) : C_law_near (Gn WF (d + 1)) := by
  intro size lines
  have e : (Gn WF (d + 1)).call 27 = runD (Gn WF (d + 0)) f27 := rfl
  rw [e]
  exact y_law_near (G := Gn WF (d + 0)) size lines
/-- check_lines -/
def C_check_lines (G : Gd) : Prop := ∀ (size : Int) (lines : (List (Int × Int))), CallOk (G.call 9) [fun d => rI d size, fun d => (rs .F (rP2 rI rI)) d lines] (f_check_lines size lines) rU
theorem y_check_lines {G : Gd} (size : Int) (lines : (List (Int × Int))) : CallOk (runD G f9) [fun d => rI d size, fun d => (rs .F (rP2 rI rI)) d lines] (f_check_lines size lines) rU := def_ok rfl rfl (by
  refine run_fold (Γb := fun s x => [some fun d => rI d size, some fun d => (rs .F (rP2 rI rI)) d lines, some fun d => rI d x.1, some fun d => rI d x.2.1, some fun d => rI d x.2.2]) (ks := [1]) (r := (rP2 rI (rP2 rI rI))) (s0 := (() : Unit)) (fun s : Unit => [some fun d => rI d size, some fun d => (rs .F (rP2 rI rI)) d lines, none, none, none]) rfl (fz_same rfl (fun d => (fr_F fr_P2) d _) fz_nil') (it_enum (it_L (.inr (.inl rfl)) fr_P2 (r_slot (r := (rs .F (rP2 rI rI))) (v := lines) rfl zf_F))) (wk_k (wk_k (wk_d (wk_d (wk_d wk_nil))))) (fun s x => (b_P2 b_name (b_P2 b_name b_name))) (fun s x => ?_) fun s_1 => ?_
  · refine run_iteT (ks := []) rfl fz_nil' (t_B ((r_or ((r_not ((r_and ((r_chain ((r_int 0).p) (p_slot (r := rI) (v := x.2.1) rfl) (p_slot (r := rI) (v := size) rfl) rfl rfl).p) (fun _ => (r_chain ((r_int 0).p) (p_slot (r := rI) (v := x.2.2) rfl) (p_slot (r := rI) (v := size) rfl) rfl rfl).p)).p)).p) (fun _ => (r_eq eqt_I (p_slot (r := rI) (v := x.2.1) rfl) (p_slot (r := rI) (v := x.2.2) rfl)).p)).p)) (fun _ => ?_) (fun _ => ?_)
    · exact run_ex
    exact run_nil fun ρ h => (wk_k (wk_k (wk_d (wk_d (wk_d wk_nil))))) ρ h
  exact run_nil fun ρ h => rfl)
theorem o_check_lines (d : Nat) : C_check_lines (Gn WF (d + 1)) := by
  intro size lines
  have e : (Gn WF (d + 1)).call 9 = runD (Gn WF (d + 0)) f9 := rfl
  rw [e]
  exact y_check_lines (G := Gn WF (d + 0)) size lines
/-- near_masks -/
def C_near_masks (G : Gd) : Prop := ∀ (size : Int) (lines : (List (Int × Int))), CallOk (G.call 1) [fun d => rI d size, fun d => (rs .T (rP2 rI rI)) d lines] (f_near_masks size lines) (rs .T rI)
theorem y_near_masks {G : Gd} (size : Int) (lines : (List (Int × Int))) : CallOk (runD G f1) [fun d => rI d size, fun d => (rs .T (rP2 rI rI)) d lines] (f_near_masks size lines) (rs .T rI) := def_ok rfl rfl (by
  refine run_bind fun r h_r => ?_
  refine run_bind fun l h_l => ?_
  refine run_asg (ks := []) rfl fz_nil' (r_lcM (r := rI) (Γb := fun z => [some fun d => rI d size, some fun d => (rs .T (rP2 rI rI)) d lines, none, none, none, some fun d => rI d z]) (it_r1 (p_slot (r := rI) (v := size) rfl) h_r) (fun z => b_name) (fun z => r_int 0) h_l) b_name ?_
  refine run_fold (Γb := fun near x => [some fun d => rI d size, some fun d => (rs .T (rP2 rI rI)) d lines, some fun d => (rs .W rI) d near, some fun d => rI d x.1, some fun d => rI d x.2, none]) (ks := [1]) (r := (rP2 rI rI)) (s0 := (l : (List Int))) (fun near : (List Int) => [some fun d => rI d size, some fun d => (rs .T (rP2 rI rI)) d lines, some fun d => (rs .W rI) d near, none, none, none]) rfl (fz_same rfl (fun d => fr_T d _) fz_nil') (it_T (r_slot (r := (rs .T (rP2 rI rI))) (v := lines) rfl zf_T)) (wk_k (wk_k (wk_k (wk_d (wk_d (wk_d wk_nil)))))) (fun near x => (b_P2 b_name b_name)) (fun near x => ?_) fun near_3 => ?_
  · refine run_bind fun x_1 h_x_1 => ?_
    refine run_bind fun s h_s => ?_
    refine run_bind fun near_1 h_near_1 => ?_
    refine run_sub (ks := []) rfl fz_nil' rfl (r_or_ (p_idx (p_slot (r := (rs .W rI)) (v := near) rfl) (p_slot (r := rI) (v := x.1) rfl) h_x_1) ((r_shl ((r_int 1).p) (p_slot (r := rI) (v := x.2) rfl) h_s).p)) (p_slot (r := rI) (v := x.1) rfl) h_near_1 zf_I ?_
    refine run_bind fun x_2 h_x_2 => ?_
    refine run_bind fun s_1 h_s_1 => ?_
    refine run_bind fun near_2 h_near_2 => ?_
    refine run_sub (ks := []) rfl fz_nil' rfl (r_or_ (p_idx (p_slot (r := (rs .W rI)) (v := near_1) rfl) (p_slot (r := rI) (v := x.2) rfl) h_x_2) ((r_shl ((r_int 1).p) (p_slot (r := rI) (v := x.1) rfl) h_s_1).p)) (p_slot (r := rI) (v := x.2) rfl) h_near_2 zf_I ?_
    exact run_nil fun ρ h => (wk_k (wk_k (wk_k (wk_d (wk_d (wk_d wk_nil)))))) ρ h
  exact run_ret (ks := []) rfl fz_nil' (r_tuple (p_slot (r := (rs .W rI)) (v := near_3) rfl) zf_I) (fun d h => h))
theorem o_near_masks (d : Nat) : C_near_masks (Gn WF (d + 1)) := by
  intro size lines
  have e : (Gn WF (d + 1)).call 1 = runD (Gn WF (d + 0)) f1 := rfl
  rw [e]
  exact y_near_masks (G := Gn WF (d + 0)) size lines
/-- places_of -/
def C_places_of (G : Gd) : Prop := ∀ (mask : Int), CallOk (G.call 0) [fun d => rI d mask] (f_places_of mask) (rs .T rI)
theorem y_places_of {G : Gd} (hwf : G.wf = WF) (mask : Int) : CallOk (runD G f0) [fun d => rI d mask] (f_places_of mask) (rs .T rI) := def_ok rfl rfl (by
  refine run_asgB (ks := []) rfl fz_nil' (r_lst (xs := ([] : List Int)) (r := rI) a_nil rfl al_nil) (fun _ => b_name) fun found => ?_
  refine run_while (ks := []) (s0 := ((mask, found) : (Int × (List Int)))) (fun s : (Int × (List Int)) => [some fun d => rI d s.1, some fun d => (rs .W rI) d s.2, none]) hwf rfl fz_nil' (wk_k (wk_k (wk_d wk_nil))) (fun s => em_ok (t_B ((r_ne eqt_I (p_slot (r := rI) (v := s.1) rfl) ((r_int 0).p)).p))) (fun s => ?_) fun s_1 => ?_
  · refine run_asgB (ks := []) rfl fz_nil' (r_and_ (p_slot (r := rI) (v := s.1) rfl) ((r_neg (p_slot (r := rI) (v := s.1) rfl)).p)) (fun _ => b_name) fun lowest => ?_
    refine run_bind fun found_1 h_found_1 => ?_
    refine run_app (ks := []) rfl fz_nil' rfl (r_sub ((r_bits (p_slot (r := rI) (v := lowest) rfl)).p) ((r_int 1).p)) h_found_1 ?_
    refine run_asgB (ks := []) rfl fz_nil' (r_xor_ (p_slot (r := rI) (v := s.1) rfl) (p_slot (r := rI) (v := lowest) rfl)) (fun _ => b_name) fun mask_1 => ?_
    exact run_nil fun ρ h => (wk_k (wk_k (wk_d wk_nil))) ρ h
  exact run_ret (ks := []) rfl fz_nil' (r_tuple (p_slot (r := (rs .W rI)) (v := s_1.2) rfl) zf_I) (fun d h => h))
theorem o_places_of (d : Nat) : C_places_of (Gn WF (d + 1)) := by
  intro mask
  have e : (Gn WF (d + 1)).call 0 = runD (Gn WF (d + 0)) f0 := rfl
  rw [e]
  exact y_places_of (G := Gn WF (d + 0)) (gn_wf _) mask
/-- Web.__init__ -/
def C_Web_new (G : Gd) : Prop := ∀ (size : Int) (lines : (List (Int × Int))), CallOk (G.new 0) [fun d => rI d size, fun d => (rs .F (rP2 rI rI)) d lines] (f_Web_new size lines) r_Web
theorem y_Web_new {G : Gd} (c_check_lines : C_check_lines G) (c_near_masks : C_near_masks G) (c_places_of : C_places_of G) (size : Int) (lines : (List (Int × Int))) : CallOk (newD G 0 f3) [fun d => rI d size, fun d => (rs .F (rP2 rI rI)) d lines] (f_Web_new size lines) r_Web := new_ok fu_c_Web (ini_ok rfl (fun a => rfl) fun a => by
  refine run_bind fun y h_y => ?_
  refine run_drop (ks := [1, 2]) rfl (fz_same rfl (fun d => fr_I d _) (fz_same rfl (fun d => (fr_F fr_P2) d _) fz_nil')) ((r_call (c_check_lines size lines) (f_cons (p := fun d => rI d size) (r_slot (r := rI) (v := size) rfl zf_I) (fun d h => fr_I _ _ h) (f_cons (p := fun d => (rs .F (rP2 rI rI)) d lines) (r_slot (r := (rs .F (rP2 rI rI))) (v := lines) rfl zf_F) (fun d h => (fr_F fr_P2) _ _ h) f_nil)) h_y).p) ?_
  refine run_fld (R' := rI) (kf := 0) (ks := [1]) rfl (fz_same rfl (fun d => fr_I d _) fz_nil') rfl (r_slot (r := rI) (v := size) rfl zf_I) fr_I rfl rfl rfl ?_
  refine run_bind fun l h_l => ?_
  refine run_bind fun s h_s => ?_
  refine run_fld (R' := (rs .T (rP2 rI rI))) (kf := 1) (ks := [2]) rfl (fz_same rfl (fun d => (fr_F fr_P2) d _) fz_nil') rfl (r_tuple ((r_setsort (.inl rfl) ((r_lcM (r := (rP2 rI rI)) (Γb := fun x => [some fun d => (rOb a 0 [0] [fun d => rI d size]) d (), some fun d => rI d size, some fun d => (rs .F (rP2 rI rI)) d lines, none, some fun d => rI d x.1, some fun d => rI d x.2]) (it_L (.inr (.inl rfl)) fr_P2 (r_slot (r := (rs .F (rP2 rI rI))) (v := lines) rfl zf_F)) (fun x => (b_P2 b_name b_name)) (fun x => r_tupX (f_cons (p := fun d => rI d (min2 x.1 x.2)) (r_min2 (p_slot (r := rI) (v := x.1) rfl) (p_slot (r := rI) (v := x.2) rfl)) (fun d h => fr_I _ _ h) (f_cons (p := fun d => rI d (max2 x.1 x.2)) (r_max2 (p_slot (r := rI) (v := x.1) rfl) (p_slot (r := rI) (v := x.2) rfl)) (fun d h => fr_I _ _ h) f_nil)) rfl x_P2) h_l).p) h_s).p) zf_P2) fr_T rfl rfl rfl ?_
  refine run_bind fun y_1 h_y_1 => ?_
  refine run_fld (R' := (rs .T rI)) (kf := 2) (ks := [1]) rfl (fz_same rfl (fun d => fr_I d _) fz_nil') rfl (r_call (c_near_masks size s) (f_cons (p := fun d => rI d size) (r_slot (r := rI) (v := size) rfl zf_I) (fun d h => fr_I _ _ h) (f_cons (p := fun d => (rs .T (rP2 rI rI)) d s) (r_fld (v := s) (r := (rs .T (rP2 rI rI))) (p_slot (r := (rOb a 0 [0, 1] [fun d => rI d size, fun d => (rs .T (rP2 rI rI)) d s])) (v := ()) rfl) (fun d h => ob_get h 1 rfl rfl) zf_T) (fun d h => fr_T _ _ h) f_nil)) h_y_1) fr_T rfl rfl rfl ?_
  refine run_bind fun l_1 h_l_1 => ?_
  refine run_fld (R' := (rs .T (rs .T rI))) (kf := 3) (ks := [3]) rfl (fz_skip rfl fz_nil') rfl (r_tuple ((r_lcP (r := rI) (r' := (rs .T rI)) (f := fun mask : Int => (f_places_of mask).bind fun y_2 => .ok (y_2)) (Γb := fun mask => [some fun d => (rOb a 0 [0, 1, 2] [fun d => rI d size, fun d => (rs .T (rP2 rI rI)) d s, fun d => (rs .T rI) d y_1]) d (), some fun d => rI d size, some fun d => (rs .F (rP2 rI rI)) d lines, some fun d => rI d mask, none, none]) (it_T (r_fld (v := y_1) (r := (rs .T rI)) (p_slot (r := (rOb a 0 [0, 1, 2] [fun d => rI d size, fun d => (rs .T (rP2 rI rI)) d s, fun d => (rs .T rI) d y_1])) (v := ()) rfl) (fun d h => ob_get h 2 rfl rfl) zf_T)) (fun mask => b_name) (fun mask => em_bind fun y_2 h_y_2 => em_ok (r_call (c_places_of mask) (f_cons (p := fun d => rI d mask) (r_slot (r := rI) (v := mask) rfl zf_I) (fun d h => fr_I _ _ h) f_nil) h_y_2)) h_l_1).p) zf_T) fr_T rfl rfl rfl ?_
  exact run_nil (ini_end rfl fun ds h => n_c_Web h))
theorem o_Web_new (d : Nat) : C_Web_new (Gn WF (d + 2)) := by
  intro size lines
  have e : (Gn WF (d + 2)).new 0 = newD (Gn WF (d + 1)) 0 f3 := rfl
  rw [e]
  exact y_Web_new (G := Gn WF (d + 1)) (o_check_lines (d + 0)) (o_near_masks (d + 0)) (o_places_of (d + 0)) size lines
/-- check_picture -/
def C_check_picture (G : Gd) : Prop := ∀ (size : Int) (picture : (List Int)), CallOk (G.call 13) [fun d => rI d size, fun d => (rs .Q rI) d picture] (f_check_picture size picture) rU
theorem y_check_picture {G : Gd} (size : Int) (picture : (List Int)) : CallOk (runD G f13) [fun d => rI d size, fun d => (rs .Q rI) d picture] (f_check_picture size picture) rU := def_ok rfl rfl (by
  refine run_fold (Γb := fun s x => [some fun d => rI d size, some fun d => (rs .Q rI) d picture, some fun d => rI d x.1, some fun d => rI d x.2]) (ks := [1]) (r := (rP2 rI rI)) (s0 := (() : Unit)) (fun s : Unit => [some fun d => rI d size, some fun d => (rs .Q rI) d picture, none, none]) rfl (fz_same rfl (fun d => (fr_Q fr_I) d _) fz_nil') (it_enum (it_Q fr_I (r_slot (r := (rs .Q rI)) (v := picture) rfl zf_Q))) (wk_k (wk_k (wk_d (wk_d wk_nil)))) (fun s x => (b_P2 b_name b_name)) (fun s x => ?_) fun s_1 => ?_
  · refine run_iteT (ks := []) rfl fz_nil' (t_B ((r_or ((r_ge (p_slot (r := rI) (v := x.1) rfl) (p_slot (r := rI) (v := size) rfl)).p) (fun _ => (r_nin int_TI (p_slot (r := rI) (v := x.2) rfl) ((r_tupS (f_cons (p := fun d => rI d (0 : Int)) (r_int 0) (fun d h => fr_I _ _ h) (f_cons (p := fun d => rI d (1 : Int)) (r_int 1) (fun d h => fr_I _ _ h) (f_cons (p := fun d => rI d (2 : Int)) (r_int 2) (fun d h => fr_I _ _ h) f_nil))) rfl (al_cons (al_cons (al_cons al_nil)))).p)).p)).p)) (fun _ => ?_) (fun _ => ?_)
    · exact run_ex
    exact run_nil fun ρ h => (wk_k (wk_k (wk_d (wk_d wk_nil)))) ρ h
  refine run_iteT (ks := []) rfl fz_nil' (t_B ((r_lt ((r_len (p_slot (r := (rs .Q rI)) (v := picture) rfl)).p) (p_slot (r := rI) (v := size) rfl)).p)) (fun _ => ?_) (fun _ => ?_)
  · exact run_ex
  exact run_nil fun ρ h => rfl)
theorem o_check_picture (d : Nat) : C_check_picture (Gn WF (d + 1)) := by
  intro size picture
  have e : (Gn WF (d + 1)).call 13 = runD (Gn WF (d + 0)) f13 := rfl
  rw [e]
  exact y_check_picture (G := Gn WF (d + 0)) size picture
/-- Scene.__init__ -/
def C_Scene_new (G : Gd) : Prop := ∀ (web : Web) (picture : (List Int)), CallOk (G.new 1) [fun d => r_Web d web, fun d => (rs .Q rI) d picture] (f_Scene_new web picture) r_Scene
theorem y_Scene_new {G : Gd} (c_check_picture : C_check_picture G) (web : Web) (picture : (List Int)) : CallOk (newD G 1 f11) [fun d => r_Web d web, fun d => (rs .Q rI) d picture] (f_Scene_new web picture) r_Scene := new_ok fu_c_Scene (ini_ok rfl (fun a => rfl) fun a => by
  refine run_bind fun y h_y => ?_
  refine run_drop (ks := [2]) rfl (fz_same rfl (fun d => (fr_Q fr_I) d _) fz_nil') ((r_call (c_check_picture web.size picture) (f_cons (p := fun d => rI d web.size) (r_fld (p_slot (r := r_Web) (v := web) rfl) g_Web_size zf_I) (fun d h => fr_I _ _ h) (f_cons (p := fun d => (rs .Q rI) d picture) (r_slot (r := (rs .Q rI)) (v := picture) rfl zf_Q) (fun d h => (fr_Q fr_I) _ _ h) f_nil)) h_y).p) ?_
  refine run_fld (R' := r_Web) (kf := 4) (ks := [1]) rfl (fz_same rfl (fun d => fr_c_Web d _) fz_nil') rfl (r_slot (r := r_Web) (v := web) rfl zf_c_Web) fr_c_Web rfl rfl rfl ?_
  refine run_fld (R' := (rs .T rI)) (kf := 5) (ks := []) rfl fz_nil' rfl (r_tuple (p_slot (r := (rs .Q rI)) (v := picture) rfl) zf_I) fr_T rfl rfl rfl ?_
  exact run_nil (ini_end rfl fun ds h => n_c_Scene h))
theorem o_Scene_new (d : Nat) : C_Scene_new (Gn WF (d + 2)) := by
  intro web picture
  have e : (Gn WF (d + 2)).new 1 = newD (Gn WF (d + 1)) 1 f11 := rfl
  rw [e]
  exact y_Scene_new (G := Gn WF (d + 1)) (o_check_picture (d + 0)) web picture
/-- _law_back -/
def C_law_back (G : Gd) : Prop := ∀ (near : (List (List Int))) (picture : (List Int)) (touched : (List Int)), CallOk (G.call 31) [fun d => (rs .F (rs .F rI)) d near, fun d => (rs .T rI) d picture, fun d => (rs .F rI) d touched] (f_law_back near picture touched) (rs .T rI)
theorem y_law_back {G : Gd} (near : (List (List Int))) (picture : (List Int)) (touched : (List Int)) : CallOk (runD G f31) [fun d => (rs .F (rs .F rI)) d near, fun d => (rs .T rI) d picture, fun d => (rs .F rI) d touched] (f_law_back near picture touched) (rs .T rI) := def_ok rfl rfl (by
  refine run_asgB (ks := []) rfl fz_nil' (r_lst (xs := ([] : List Int)) (r := rI) a_nil rfl al_nil) (fun _ => b_name) fun earlier => ?_
  refine run_bind fun r h_r => ?_
  refine run_fold (Γb := fun earlier_1 place => [some fun d => (rs .F (rs .F rI)) d near, some fun d => (rs .T rI) d picture, some fun d => (rs .F rI) d touched, some fun d => (rs .W rI) d earlier_1, some fun d => rI d place, none, none, none]) (ks := []) (r := rI) (s0 := (earlier : (List Int))) (fun earlier_1 : (List Int) => [some fun d => (rs .F (rs .F rI)) d near, some fun d => (rs .T rI) d picture, some fun d => (rs .F rI) d touched, some fun d => (rs .W rI) d earlier_1, none, none, none, none]) rfl fz_nil' (it_r1 ((r_len (p_slot (r := (rs .T rI)) (v := picture) rfl)).p) h_r) (wk_k (wk_k (wk_k (wk_k (wk_d (wk_d (wk_d (wk_d wk_nil)))))))) (fun earlier_1 place => b_name) (fun earlier_1 place => ?_) fun earlier_5 => ?_
  · refine run_bind fun x h_x => ?_
    refine run_asg (ks := []) rfl fz_nil' (r_idx (p_slot (r := (rs .T rI)) (v := picture) rfl) (p_slot (r := rI) (v := place) rfl) h_x zf_I) b_name ?_
    refine run_bind fun x_1 h_x_1 => ?_
    refine run_bind fun l h_l => ?_
    refine run_asg (ks := [7]) rfl (fz_skip rfl fz_nil') (r_lcPF (r := rI) (r' := rI) (f := fun other : Int => .ok (other)) (ct := fun other : Int => (getI picture other).bind fun x_2 => .ok ((decide (x_2 = (2 : Int))))) (Γb := fun other => [some fun d => (rs .F (rs .F rI)) d near, some fun d => (rs .T rI) d picture, some fun d => (rs .F rI) d touched, some fun d => (rs .W rI) d earlier_1, some fun d => rI d place, some fun d => rI d x, none, some fun d => rI d other]) (it_L (.inr (.inl rfl)) fr_I (r_idx (p_slot (r := (rs .F (rs .F rI))) (v := near) rfl) (p_slot (r := rI) (v := place) rfl) h_x_1 zf_F)) (fun other => b_name) (fun other => em_bind fun x_2 h_x_2 => em_ok (t_B ((r_eq eqt_I (p_idx (p_slot (r := (rs .T rI)) (v := picture) rfl) (p_slot (r := rI) (v := other) rfl) h_x_2) ((r_int 2).p)).p))) (fun other => em_ok (r_slot (r := rI) (v := other) rfl zf_I)) h_l) b_name ?_
    refine run_iteJ (fun earlier_4 : (List Int) => [some fun d => (rs .F (rs .F rI)) d near, some fun d => (rs .T rI) d picture, some fun d => (rs .F rI) d touched, some fun d => (rs .W rI) d earlier_4, some fun d => rI d place, some fun d => rI d x, some fun d => (rs .W rI) d l, none]) (ks := []) rfl fz_nil' (t_B ((r_and ((r_eq eqt_I (p_slot (r := rI) (v := x) rfl) ((r_int 0).p)).p) (fun _ => (r_or ((r_gt ((r_len (p_slot (r := (rs .W rI)) (v := l) rfl)).p) ((r_int 0).p)).p) (fun _ => (r_in (int_L (.inr (.inl rfl)) dat_I dat_I eqf_I (by decide) (by decide)) (p_slot (r := rI) (v := place) rfl) (p_slot (r := (rs .F rI)) (v := touched) rfl)).p)).p)).p)) (fun _ => ?_) (fun _ => ?_) fun earlier_4 => ?_
    · refine run_bind fun earlier_2 h_earlier_2 => ?_
      refine run_app (ks := []) rfl fz_nil' rfl (r_int 2) h_earlier_2 ?_
      exact run_nil fun ρ h => (wk_k (wk_k (wk_k (wk_k (wk_k (wk_k (wk_k (wk_d wk_nil)))))))) ρ h
    · refine run_bind fun x_3 h_x_3 => ?_
      refine run_bind fun earlier_3 h_earlier_3 => ?_
      refine run_app (ks := []) rfl fz_nil' rfl (r_idx ((r_lst (a_cons (p := fun d => rI d (0 : Int)) (r_int 0) (fun d h => h) (a_cons (p := fun d => rI d (0 : Int)) (r_int 0) (fun d h => h) (a_cons (p := fun d => rI d (1 : Int)) (r_int 1) (fun d h => h) a_nil))) rfl (al_cons (al_cons (al_cons al_nil)))).p) (p_slot (r := rI) (v := x) rfl) h_x_3 zf_I) h_earlier_3 ?_
      exact run_nil fun ρ h => (wk_k (wk_k (wk_k (wk_k (wk_k (wk_k (wk_k (wk_d wk_nil)))))))) ρ h
    exact run_nil fun ρ h => (wk_k (wk_k (wk_k (wk_k (wk_d (wk_d (wk_d (wk_d wk_nil)))))))) ρ h
  exact run_ret (ks := []) rfl fz_nil' (r_tuple (p_slot (r := (rs .W rI)) (v := earlier_5) rfl) zf_I) (fun d h => h))
theorem o_law_back (d : Nat) : C_law_back (Gn WF (d + 1)) := by
  intro near picture touched
  have e : (Gn WF (d + 1)).call 31 = runD (Gn WF (d + 0)) f31 := rfl
  rw [e]
  exact y_law_back (G := Gn WF (d + 0)) near picture touched
/-- _law_mirror -/
def C_law_mirror (G : Gd) : Prop := ∀ (picture : (List Int)), CallOk (G.call 32) [fun d => (rs .T rI) d picture] (f_law_mirror picture) (rs .T rI)
theorem y_law_mirror {G : Gd} (picture : (List Int)) : CallOk (runD G f32) [fun d => (rs .T rI) d picture] (f_law_mirror picture) (rs .T rI) := def_ok rfl rfl (by
  refine run_bind fun l h_l => ?_
  exact run_ret (ks := [0]) rfl (fz_same rfl (fun d => fr_T d _) fz_nil') (r_tuple ((r_lcP (r := rI) (r' := rI) (f := fun state : Int => (getI [(0 : Int), (2 : Int), (1 : Int)] state).bind fun x => .ok (x)) (Γb := fun state => [some fun d => (rs .T rI) d picture, some fun d => rI d state]) (it_T (r_slot (r := (rs .T rI)) (v := picture) rfl zf_T)) (fun state => b_name) (fun state => em_bind fun x h_x => em_ok (r_idx ((r_lst (a_cons (p := fun d => rI d (0 : Int)) (r_int 0) (fun d h => h) (a_cons (p := fun d => rI d (2 : Int)) (r_int 2) (fun d h => h) (a_cons (p := fun d => rI d (1 : Int)) (r_int 1) (fun d h => h) a_nil))) rfl (al_cons (al_cons (al_cons al_nil)))).p) (p_slot (r := rI) (v := state) rfl) h_x zf_I)) h_l).p) zf_I) (fun d h => h))
theorem o_law_mirror (d : Nat) : C_law_mirror (Gn WF (d + 1)) := by
  intro picture
  have e : (Gn WF (d + 1)).call 32 = runD (Gn WF (d + 0)) f32 := rfl
  rw [e]
  exact y_law_mirror (G := Gn WF (d + 0)) picture
/-- _law_step -/
def C_law_step (G : Gd) : Prop := ∀ (near : (List (List Int))) (picture : (List Int)) (touched : (List Int)), CallOk (G.call 28) [fun d => (rs .F (rs .F rI)) d near, fun d => (rs .T rI) d picture, fun d => (rs .F rI) d touched] (f_law_step near picture touched) (rs .T rI)
theorem y_law_step {G : Gd} (near : (List (List Int))) (picture : (List Int)) (touched : (List Int)) : CallOk (runD G f28) [fun d => (rs .F (rs .F rI)) d near, fun d => (rs .T rI) d picture, fun d => (rs .F rI) d touched] (f_law_step near picture touched) (rs .T rI) := def_ok rfl rfl (by
  refine run_asgB (ks := []) rfl fz_nil' (r_lst (xs := ([] : List Int)) (r := rI) a_nil rfl al_nil) (fun _ => b_name) fun later => ?_
  refine run_bind fun r h_r => ?_
  refine run_fold (Γb := fun later_1 place => [some fun d => (rs .F (rs .F rI)) d near, some fun d => (rs .T rI) d picture, some fun d => (rs .F rI) d touched, some fun d => (rs .W rI) d later_1, some fun d => rI d place, none, none, none]) (ks := []) (r := rI) (s0 := (later : (List Int))) (fun later_1 : (List Int) => [some fun d => (rs .F (rs .F rI)) d near, some fun d => (rs .T rI) d picture, some fun d => (rs .F rI) d touched, some fun d => (rs .W rI) d later_1, none, none, none, none]) rfl fz_nil' (it_r1 ((r_len (p_slot (r := (rs .T rI)) (v := picture) rfl)).p) h_r) (wk_k (wk_k (wk_k (wk_k (wk_d (wk_d (wk_d (wk_d wk_nil)))))))) (fun later_1 place => b_name) (fun later_1 place => ?_) fun later_5 => ?_
  · refine run_bind fun x h_x => ?_
    refine run_asg (ks := []) rfl fz_nil' (r_idx (p_slot (r := (rs .T rI)) (v := picture) rfl) (p_slot (r := rI) (v := place) rfl) h_x zf_I) b_name ?_
    refine run_iteJ (fun later_4 : (List Int) => [some fun d => (rs .F (rs .F rI)) d near, some fun d => (rs .T rI) d picture, some fun d => (rs .F rI) d touched, some fun d => (rs .W rI) d later_4, some fun d => rI d place, some fun d => rI d x, none, none]) (ks := []) rfl fz_nil' (t_B ((r_gt (p_slot (r := rI) (v := x) rfl) ((r_int 0).p)).p)) (fun _ => ?_) (fun _ => ?_) fun later_4 => ?_
    · refine run_bind fun x_1 h_x_1 => ?_
      refine run_bind fun later_2 h_later_2 => ?_
      refine run_app (ks := []) rfl fz_nil' rfl (r_idx ((r_lst (a_cons (p := fun d => rI d (0 : Int)) (r_int 0) (fun d h => h) (a_cons (p := fun d => rI d (2 : Int)) (r_int 2) (fun d h => h) (a_cons (p := fun d => rI d (0 : Int)) (r_int 0) (fun d h => h) a_nil))) rfl (al_cons (al_cons (al_cons al_nil)))).p) (p_slot (r := rI) (v := x) rfl) h_x_1 zf_I) h_later_2 ?_
      exact run_nil fun ρ h => (wk_k (wk_k (wk_k (wk_k (wk_k (wk_k (wk_d (wk_d wk_nil)))))))) ρ h
    · refine run_bind fun x_2 h_x_2 => ?_
      refine run_bind fun l h_l => ?_
      refine run_asg (ks := [7]) rfl (fz_skip rfl fz_nil') (r_lcPF (r := rI) (r' := rI) (f := fun other : Int => .ok (other)) (ct := fun other : Int => (getI picture other).bind fun x_3 => .ok ((decide (x_3 = (1 : Int))))) (Γb := fun other => [some fun d => (rs .F (rs .F rI)) d near, some fun d => (rs .T rI) d picture, some fun d => (rs .F rI) d touched, some fun d => (rs .W rI) d later_1, some fun d => rI d place, some fun d => rI d x, none, some fun d => rI d other]) (it_L (.inr (.inl rfl)) fr_I (r_idx (p_slot (r := (rs .F (rs .F rI))) (v := near) rfl) (p_slot (r := rI) (v := place) rfl) h_x_2 zf_F)) (fun other => b_name) (fun other => em_bind fun x_3 h_x_3 => em_ok (t_B ((r_eq eqt_I (p_idx (p_slot (r := (rs .T rI)) (v := picture) rfl) (p_slot (r := rI) (v := other) rfl) h_x_3) ((r_int 1).p)).p))) (fun other => em_ok (r_slot (r := rI) (v := other) rfl zf_I)) h_l) b_name ?_
      refine run_bind fun later_3 h_later_3 => ?_
      refine run_app (ks := []) rfl fz_nil' rfl (r_intB ((r_or ((r_gt ((r_len (p_slot (r := (rs .W rI)) (v := l) rfl)).p) ((r_int 0).p)).p) (fun _ => (r_in (int_L (.inr (.inl rfl)) dat_I dat_I eqf_I (by decide) (by decide)) (p_slot (r := rI) (v := place) rfl) (p_slot (r := (rs .F rI)) (v := touched) rfl)).p)).p)) h_later_3 ?_
      exact run_nil fun ρ h => (wk_k (wk_k (wk_k (wk_k (wk_k (wk_k (wk_d (wk_d wk_nil)))))))) ρ h
    exact run_nil fun ρ h => (wk_k (wk_k (wk_k (wk_k (wk_d (wk_d (wk_d (wk_d wk_nil)))))))) ρ h
  exact run_ret (ks := []) rfl fz_nil' (r_tuple (p_slot (r := (rs .W rI)) (v := later_5) rfl) zf_I) (fun d h => h))
theorem o_law_step (d : Nat) : C_law_step (Gn WF (d + 1)) := by
  intro near picture touched
  have e : (Gn WF (d + 1)).call 28 = runD (Gn WF (d + 0)) f28 := rfl
  rw [e]
  exact y_law_step (G := Gn WF (d + 0)) near picture touched
/-- mirror -/
def C_mirror (G : Gd) : Prop := ∀ (scene : Scene), CallOk (G.call 14) [fun d => r_Scene d scene] (f_mirror scene) r_Scene
theorem y_mirror {G : Gd} (c_Scene_new : C_Scene_new G) (scene : Scene) : CallOk (runD G f14) [fun d => r_Scene d scene] (f_mirror scene) r_Scene := def_ok rfl rfl (by
  refine run_bind fun l h_l => ?_
  refine run_bind fun o h_o => ?_
  exact run_ret (ks := []) rfl fz_nil' (r_mk (c_Scene_new scene.web l) (f_cons (p := fun d => r_Web d scene.web) (r_fld (p_slot (r := r_Scene) (v := scene) rfl) g_Scene_web zf_c_Web) (fun d h => fr_c_Web _ _ h) (f_cons (p := fun d => (rs .Q rI) d l) (r_lcP (r := rI) (r' := rI) (f := fun state : Int => (getI [(0 : Int), (2 : Int), (1 : Int)] state).bind fun x => .ok (x)) (Γb := fun state => [some fun d => r_Scene d scene, some fun d => rI d state]) (it_T (r_fld (p_slot (r := r_Scene) (v := scene) rfl) g_Scene_picture zf_T)) (fun state => b_name) (fun state => em_bind fun x h_x => em_ok (r_idx ((r_tupS (f_cons (p := fun d => rI d (0 : Int)) (r_int 0) (fun d h => fr_I _ _ h) (f_cons (p := fun d => rI d (2 : Int)) (r_int 2) (fun d h => fr_I _ _ h) (f_cons (p := fun d => rI d (1 : Int)) (r_int 1) (fun d h => fr_I _ _ h) f_nil))) rfl (al_cons (al_cons (al_cons al_nil)))).p) (p_slot (r := rI) (v := state) rfl) h_x zf_I)) h_l) (fun d h => (sb_FQ sb_id) _ _ ((fr_W fr_I) _ _ h)) f_nil)) h_o) (fun d h => h))
theorem o_mirror (d : Nat) : C_mirror (Gn WF (d + 3)) := by
  intro scene
  have e : (Gn WF (d + 3)).call 14 = runD (Gn WF (d + 2)) f14 := rfl
  rw [e]
  exact y_mirror (G := Gn WF (d + 2)) (o_Scene_new (d + 0)) scene
/-- masks_of_scene -/
def C_masks_of_scene (G : Gd) : Prop := ∀ (scene : Scene), CallOk (G.call 15) [fun d => r_Scene d scene] (f_masks_of_scene scene) (rP2 rI rI)
theorem y_masks_of_scene {G : Gd} (scene : Scene) : CallOk (runD G f15) [fun d => r_Scene d scene] (f_masks_of_scene scene) (rP2 rI rI) := def_ok rfl rfl (by
  refine run_asg (ks := []) rfl fz_nil' (r_int 0) b_name ?_
  refine run_asg (ks := []) rfl fz_nil' (r_int 0) b_name ?_
  refine run_fold (Γb := fun s x => [some fun d => r_Scene d scene, some fun d => rI d s.1, some fun d => rI d s.2, some fun d => rI d x.1, some fun d => rI d x.2]) (ks := []) (r := (rP2 rI rI)) (s0 := (((0 : Int), (0 : Int)) : (Int × Int))) (fun s : (Int × Int) => [some fun d => r_Scene d scene, some fun d => rI d s.1, some fun d => rI d s.2, none, none]) rfl fz_nil' (it_enum (it_T (r_fld (p_slot (r := r_Scene) (v := scene) rfl) g_Scene_picture zf_T))) (wk_k (wk_k (wk_k (wk_d (wk_d wk_nil))))) (fun s x => (b_P2 b_name b_name)) (fun s x => ?_) fun s_3 => ?_
  · refine run_iteJ (fun j : (Int × Int) => [some fun d => r_Scene d scene, some fun d => rI d j.1, some fun d => rI d j.2, some fun d => rI d x.1, some fun d => rI d x.2]) (ks := []) rfl fz_nil' (t_B ((r_eq eqt_I (p_slot (r := rI) (v := x.2) rfl) ((r_int 1).p)).p)) (fun _ => ?_) (fun _ => ?_) fun j => ?_
    · refine run_bind fun s_1 h_s_1 => ?_
      refine run_asgB (ks := []) rfl fz_nil' (r_or_ (p_slot (r := rI) (v := s.1) rfl) ((r_shl ((r_int 1).p) (p_slot (r := rI) (v := x.1) rfl) h_s_1).p)) (fun _ => b_name) fun fired => ?_
      exact run_nil fun ρ h => (wk_k (wk_k (wk_k (wk_k (wk_k wk_nil))))) ρ h
    · refine run_iteJ (fun resting_1 : Int => [some fun d => r_Scene d scene, some fun d => rI d s.1, some fun d => rI d resting_1, some fun d => rI d x.1, some fun d => rI d x.2]) (ks := []) rfl fz_nil' (t_B ((r_eq eqt_I (p_slot (r := rI) (v := x.2) rfl) ((r_int 2).p)).p)) (fun _ => ?_) (fun _ => ?_) fun resting_1 => ?_
      · refine run_bind fun s_2 h_s_2 => ?_
        refine run_asgB (ks := []) rfl fz_nil' (r_or_ (p_slot (r := rI) (v := s.2) rfl) ((r_shl ((r_int 1).p) (p_slot (r := rI) (v := x.1) rfl) h_s_2).p)) (fun _ => b_name) fun resting => ?_
        exact run_nil fun ρ h => (wk_k (wk_k (wk_k (wk_k (wk_k wk_nil))))) ρ h
      · exact run_nil fun ρ h => (wk_k (wk_k (wk_k (wk_k (wk_k wk_nil))))) ρ h
      exact run_nil fun ρ h => (wk_k (wk_k (wk_k (wk_k (wk_k wk_nil))))) ρ h
    exact run_nil fun ρ h => (wk_k (wk_k (wk_k (wk_d (wk_d wk_nil))))) ρ h
  exact run_ret (ks := [1, 2]) rfl (fz_same rfl (fun d => fr_I d _) (fz_same rfl (fun d => fr_I d _) fz_nil')) (r_tupX (f_cons (p := fun d => rI d s_3.1) (r_slot (r := rI) (v := s_3.1) rfl zf_I) (fun d h => fr_I _ _ h) (f_cons (p := fun d => rI d s_3.2) (r_slot (r := rI) (v := s_3.2) rfl zf_I) (fun d h => fr_I _ _ h) f_nil)) rfl x_P2) (fun d h => h))
theorem o_masks_of_scene (d : Nat) : C_masks_of_scene (Gn WF (d + 1)) := by
  intro scene
  have e : (Gn WF (d + 1)).call 15 = runD (Gn WF (d + 0)) f15 := rfl
  rw [e]
  exact y_masks_of_scene (G := Gn WF (d + 0)) scene
/-- poked_mask -/
def C_poked_mask (G : Gd) : Prop := ∀ (web : Web) (poked : (List Int)), CallOk (G.call 17) [fun d => r_Web d web, fun d => (rs .Q rI) d poked] (f_poked_mask web poked) rI
theorem y_poked_mask {G : Gd} (web : Web) (poked : (List Int)) : CallOk (runD G f17) [fun d => r_Web d web, fun d => (rs .Q rI) d poked] (f_poked_mask web poked) rI := def_ok rfl rfl (by
  refine run_asg (ks := []) rfl fz_nil' (r_int 0) b_name ?_
  refine run_fold (Γb := fun mask place => [some fun d => r_Web d web, some fun d => (rs .Q rI) d poked, some fun d => rI d mask, some fun d => rI d place]) (ks := [1]) (r := rI) (s0 := ((0 : Int) : Int)) (fun mask : Int => [some fun d => r_Web d web, some fun d => (rs .Q rI) d poked, some fun d => rI d mask, none]) rfl (fz_same rfl (fun d => (fr_Q fr_I) d _) fz_nil') (it_Q fr_I (r_slot (r := (rs .Q rI)) (v := poked) rfl zf_Q)) (wk_k (wk_k (wk_k (wk_d wk_nil)))) (fun mask place => b_name) (fun mask place => ?_) fun mask_3 => ?_
  · refine run_iteJ (fun mask_2 : Int => [some fun d => r_Web d web, some fun d => (rs .Q rI) d poked, some fun d => rI d mask_2, some fun d => rI d place]) (ks := []) rfl fz_nil' (t_B ((r_chain ((r_int 0).p) (p_slot (r := rI) (v := place) rfl) (p_fld (p_slot (r := r_Web) (v := web) rfl) g_Web_size) rfl rfl).p)) (fun _ => ?_) (fun _ => ?_) fun mask_2 => ?_
    · refine run_bind fun s h_s => ?_
      refine run_asgB (ks := []) rfl fz_nil' (r_or_ (p_slot (r := rI) (v := mask) rfl) ((r_shl ((r_int 1).p) (p_slot (r := rI) (v := place) rfl) h_s).p)) (fun _ => b_name) fun mask_1 => ?_
      exact run_nil fun ρ h => (wk_k (wk_k (wk_k (wk_k wk_nil)))) ρ h
    · exact run_nil fun ρ h => (wk_k (wk_k (wk_k (wk_k wk_nil)))) ρ h
    exact run_nil fun ρ h => (wk_k (wk_k (wk_k (wk_d wk_nil)))) ρ h
  exact run_ret (ks := [2]) rfl (fz_same rfl (fun d => fr_I d _) fz_nil') (r_slot (r := rI) (v := mask_3) rfl zf_I) (fun d h => h))
theorem o_poked_mask (d : Nat) : C_poked_mask (Gn WF (d + 1)) := by
  intro web poked
  have e : (Gn WF (d + 1)).call 17 = runD (Gn WF (d + 0)) f17 := rfl
  rw [e]
  exact y_poked_mask (G := Gn WF (d + 0)) web poked
/-- spread -/
def C_spread (G : Gd) : Prop := ∀ (near : (List Int)) (mask : Int), CallOk (G.call 2) [fun d => (rs .T rI) d near, fun d => rI d mask] (f_spread near mask) rI
theorem y_spread {G : Gd} (c_places_of : C_places_of G) (near : (List Int)) (mask : Int) : CallOk (runD G f2) [fun d => (rs .T rI) d near, fun d => rI d mask] (f_spread near mask) rI := def_ok rfl rfl (by
  refine run_asg (ks := []) rfl fz_nil' (r_int 0) b_name ?_
  refine run_bind fun y h_y => ?_
  refine run_fold (Γb := fun found place => [some fun d => (rs .T rI) d near, some fun d => rI d mask, some fun d => rI d found, some fun d => rI d place]) (ks := [1]) (r := rI) (s0 := ((0 : Int) : Int)) (fun found : Int => [some fun d => (rs .T rI) d near, some fun d => rI d mask, some fun d => rI d found, none]) rfl (fz_same rfl (fun d => fr_I d _) fz_nil') (it_T (r_call (c_places_of mask) (f_cons (p := fun d => rI d mask) (r_slot (r := rI) (v := mask) rfl zf_I) (fun d h => fr_I _ _ h) f_nil) h_y)) (wk_k (wk_k (wk_k (wk_d wk_nil)))) (fun found place => b_name) (fun found place => ?_) fun found_2 => ?_
  · refine run_bind fun x h_x => ?_
    refine run_asgB (ks := []) rfl fz_nil' (r_or_ (p_slot (r := rI) (v := found) rfl) (p_idx (p_slot (r := (rs .T rI)) (v := near) rfl) (p_slot (r := rI) (v := place) rfl) h_x)) (fun _ => b_name) fun found_1 => ?_
    exact run_nil fun ρ h => (wk_k (wk_k (wk_k (wk_d wk_nil)))) ρ h
  exact run_ret (ks := [2]) rfl (fz_same rfl (fun d => fr_I d _) fz_nil') (r_slot (r := rI) (v := found_2) rfl zf_I) (fun d h => h))
theorem o_spread (d : Nat) : C_spread (Gn WF (d + 2)) := by
  intro near mask
  have e : (Gn WF (d + 2)).call 2 = runD (Gn WF (d + 1)) f2 := rfl
  rw [e]
  exact y_spread (G := Gn WF (d + 1)) (o_places_of (d + 0)) near mask
/-- next_masks -/
def C_next_masks (G : Gd) : Prop := ∀ (near : (List Int)) (masks : (Int × Int)) (poked : Int), CallOk (G.call 18) [fun d => (rs .T rI) d near, fun d => (rP2 rI rI) d masks, fun d => rI d poked] (f_next_masks near masks poked) (rP2 rI rI)
theorem y_next_masks {G : Gd} (c_spread : C_spread G) (near : (List Int)) (masks : (Int × Int)) (poked : Int) : CallOk (runD G f18) [fun d => (rs .T rI) d near, fun d => (rP2 rI rI) d masks, fun d => rI d poked] (f_next_masks near masks poked) (rP2 rI rI) := def_ok rfl rfl (by
  refine run_asg (ks := [1]) rfl (fz_same rfl (fun d => fr_P2 d _) fz_nil') (r_slot (r := (rP2 rI rI)) (v := masks) rfl zf_P2) (b_P2 b_name b_name) ?_
  refine run_bind fun y h_y => ?_
  refine run_asgB (ks := [0, 4]) rfl (fz_same rfl (fun d => fr_T d _) (fz_same rfl (fun d => fr_I d _) fz_nil')) (r_or_ ((r_call (c_spread near masks.1) (f_cons (p := fun d => (rs .T rI) d near) (r_slot (r := (rs .T rI)) (v := near) rfl zf_T) (fun d h => fr_T _ _ h) (f_cons (p := fun d => rI d masks.1) (r_slot (r := rI) (v := masks.1) rfl zf_I) (fun d h => fr_I _ _ h) f_nil)) h_y).p) (p_slot (r := rI) (v := poked) rfl)) (fun _ => b_name) fun reached => ?_
  exact run_ret (ks := [4]) rfl (fz_same rfl (fun d => fr_I d _) fz_nil') (r_tupX (f_cons (p := fun d => rI d (band reached (bnot (bor masks.1 masks.2)))) (r_and_ (p_slot (r := rI) (v := reached) rfl) ((r_inv ((r_or_ (p_slot (r := rI) (v := masks.1) rfl) (p_slot (r := rI) (v := masks.2) rfl)).p)).p)) (fun d h => fr_I _ _ h) (f_cons (p := fun d => rI d masks.1) (r_slot (r := rI) (v := masks.1) rfl zf_I) (fun d h => fr_I _ _ h) f_nil)) rfl x_P2) (fun d h => h))
theorem o_next_masks (d : Nat) : C_next_masks (Gn WF (d + 3)) := by
  intro near masks poked
  have e : (Gn WF (d + 3)).call 18 = runD (Gn WF (d + 2)) f18 := rfl
  rw [e]
  exact y_next_masks (G := Gn WF (d + 2)) (o_spread (d + 0)) near masks poked
/-- scene_of_masks -/
def C_scene_of_masks (G : Gd) : Prop := ∀ (web : Web) (masks : (Int × Int)), CallOk (G.call 16) [fun d => r_Web d web, fun d => (rP2 rI rI) d masks] (f_scene_of_masks web masks) r_Scene
theorem y_scene_of_masks {G : Gd} (c_Scene_new : C_Scene_new G) (web : Web) (masks : (Int × Int)) : CallOk (runD G f16) [fun d => r_Web d web, fun d => (rP2 rI rI) d masks] (f_scene_of_masks web masks) r_Scene := def_ok rfl rfl (by
  refine run_asg (ks := [1]) rfl (fz_same rfl (fun d => fr_P2 d _) fz_nil') (r_slot (r := (rP2 rI rI)) (v := masks) rfl zf_P2) (b_P2 b_name b_name) ?_
  refine run_bind fun r h_r => ?_
  refine run_bind fun l h_l => ?_
  refine run_asg (ks := []) rfl fz_nil' (r_lcP (r := rI) (r' := rI) (f := fun place : Int => (shrI masks.1 place).bind fun s => (shrI masks.2 place).bind fun s_1 => .ok (((band s (1 : Int)) + ((2 : Int) * (band s_1 (1 : Int)))))) (Γb := fun place => [some fun d => r_Web d web, some fun d => (rP2 rI rI) d masks, none, some fun d => rI d masks.1, some fun d => rI d masks.2, some fun d => rI d place]) (it_r1 (p_fld (p_slot (r := r_Web) (v := web) rfl) g_Web_size) h_r) (fun place => b_name) (fun place => em_bind fun s h_s => em_bind fun s_1 h_s_1 => em_ok (r_add ((r_and_ ((r_shr (p_slot (r := rI) (v := masks.1) rfl) (p_slot (r := rI) (v := place) rfl) h_s).p) ((r_int 1).p)).p) ((r_mulL ((r_int 2).p) ((r_and_ ((r_shr (p_slot (r := rI) (v := masks.2) rfl) (p_slot (r := rI) (v := place) rfl) h_s_1).p) ((r_int 1).p)).p) (sm_l (by decide))).p))) h_l) b_name ?_
  refine run_bind fun o h_o => ?_
  exact run_ret (ks := [0, 2]) rfl (fz_same rfl (fun d => fr_c_Web d _) (fz_cons (p' := fun d => (rs .F rI) d l) rfl (fun d => (fr_W fr_I) d _) fz_nil')) (r_mk (c_Scene_new web l) (f_cons (p := fun d => r_Web d web) (r_slot (r := r_Web) (v := web) rfl zf_c_Web) (fun d h => fr_c_Web _ _ h) (f_cons (p := fun d => (rs .Q rI) d l) (r_slot (r := (rs .F rI)) (v := l) rfl zf_F) (fun d h => (sb_FQ sb_id) _ _ ((fr_F fr_I) _ _ h)) f_nil)) h_o) (fun d h => h))
theorem o_scene_of_masks (d : Nat) : C_scene_of_masks (Gn WF (d + 3)) := by
  intro web masks
  have e : (Gn WF (d + 3)).call 16 = runD (Gn WF (d + 2)) f16 := rfl
  rw [e]
  exact y_scene_of_masks (G := Gn WF (d + 2)) (o_Scene_new (d + 0)) web masks
/-- step -/
def C_step (G : Gd) : Prop := ∀ (scene : Scene) (poked : (List Int)), CallOk (G.call 19) [fun d => r_Scene d scene, fun d => (rs .Q rI) d poked] (f_step scene poked) r_Scene
theorem y_step {G : Gd} (c_masks_of_scene : C_masks_of_scene G) (c_poked_mask : C_poked_mask G) (c_next_masks : C_next_masks G) (c_scene_of_masks : C_scene_of_masks G) (scene : Scene) (poked : (List Int)) : CallOk (runD G f19) [fun d => r_Scene d scene, fun d => (rs .Q rI) d poked] (f_step scene poked) r_Scene := def_ok rfl rfl (by
  refine run_asg (ks := []) rfl fz_nil' (r_fld (p_slot (r := r_Scene) (v := scene) rfl) g_Scene_web zf_c_Web) b_name ?_
  refine run_bind fun y h_y => ?_
  refine run_bind fun y_1 h_y_1 => ?_
  refine run_bind fun y_2 h_y_2 => ?_
  refine run_asg (ks := [0, 2, 1]) rfl (fz_same rfl (fun d => fr_c_Scene d _) (fz_same rfl (fun d => fr_c_Web d _) (fz_same rfl (fun d => (fr_Q fr_I) d _) fz_nil'))) (r_call (c_next_masks scene.web.masks y y_1) (f_cons (p := fun d => (rs .T rI) d scene.web.masks) (r_fld (p_slot (r := r_Web) (v := scene.web) rfl) g_Web_masks zf_T) (fun d h => fr_T _ _ h) (f_cons (p := fun d => (rP2 rI rI) d y) (r_call (c_masks_of_scene scene) (f_cons (p := fun d => r_Scene d scene) (r_slot (r := r_Scene) (v := scene) rfl zf_c_Scene) (fun d h => fr_c_Scene _ _ h) f_nil) h_y) (fun d h => fr_P2 _ _ h) (f_cons (p := fun d => rI d y_1) (r_call (c_poked_mask scene.web poked) (f_cons (p := fun d => r_Web d scene.web) (r_slot (r := r_Web) (v := scene.web) rfl zf_c_Web) (fun d h => fr_c_Web _ _ h) (f_cons (p := fun d => (rs .Q rI) d poked) (r_slot (r := (rs .Q rI)) (v := poked) rfl zf_Q) (fun d h => (fr_Q fr_I) _ _ h) f_nil)) h_y_1) (fun d h => fr_I _ _ h) f_nil))) h_y_2) b_name ?_
  refine run_bind fun y_3 h_y_3 => ?_
  exact run_ret (ks := [2, 3]) rfl (fz_same rfl (fun d => fr_c_Web d _) (fz_same rfl (fun d => fr_P2 d _) fz_nil')) (r_call (c_scene_of_masks scene.web y_2) (f_cons (p := fun d => r_Web d scene.web) (r_slot (r := r_Web) (v := scene.web) rfl zf_c_Web) (fun d h => fr_c_Web _ _ h) (f_cons (p := fun d => (rP2 rI rI) d y_2) (r_slot (r := (rP2 rI rI)) (v := y_2) rfl zf_P2) (fun d h => fr_P2 _ _ h) f_nil)) h_y_3) (fun d h => h))
theorem o_step (d : Nat) : C_step (Gn WF (d + 4)) := by
  intro scene poked
  have e : (Gn WF (d + 4)).call 19 = runD (Gn WF (d + 3)) f19 := rfl
  rw [e]
  exact y_step (G := Gn WF (d + 3)) (o_masks_of_scene (d + 2)) (o_poked_mask (d + 2)) (o_next_masks (d + 0)) (o_scene_of_masks (d + 0)) scene poked
/-- back -/
def C_back (G : Gd) : Prop := ∀ (scene : Scene) (poked : (List Int)), CallOk (G.call 20) [fun d => r_Scene d scene, fun d => (rs .Q rI) d poked] (f_back scene poked) r_Scene
theorem y_back {G : Gd} (c_mirror : C_mirror G) (c_step : C_step G) (scene : Scene) (poked : (List Int)) : CallOk (runD G f20) [fun d => r_Scene d scene, fun d => (rs .Q rI) d poked] (f_back scene poked) r_Scene := def_ok rfl rfl (by
  refine run_bind fun y h_y => ?_
  refine run_bind fun y_1 h_y_1 => ?_
  refine run_bind fun y_2 h_y_2 => ?_
  exact run_ret (ks := [0, 1]) rfl (fz_same rfl (fun d => fr_c_Scene d _) (fz_same rfl (fun d => (fr_Q fr_I) d _) fz_nil')) (r_call (c_mirror y_1) (f_cons (p := fun d => r_Scene d y_1) (r_call (c_step y poked) (f_cons (p := fun d => r_Scene d y) (r_call (c_mirror scene) (f_cons (p := fun d => r_Scene d scene) (r_slot (r := r_Scene) (v := scene) rfl zf_c_Scene) (fun d h => fr_c_Scene _ _ h) f_nil) h_y) (fun d h => fr_c_Scene _ _ h) (f_cons (p := fun d => (rs .Q rI) d poked) (r_slot (r := (rs .Q rI)) (v := poked) rfl zf_Q) (fun d h => (fr_Q fr_I) _ _ h) f_nil)) h_y_1) (fun d h => fr_c_Scene _ _ h) f_nil) h_y_2) (fun d h => h))
theorem o_back (d : Nat) : C_back (Gn WF (d + 5)) := by
  intro scene poked
  have e : (Gn WF (d + 5)).call 20 = runD (Gn WF (d + 4)) f20 := rfl
  rw [e]
  exact y_back (G := Gn WF (d + 4)) (o_mirror (d + 1)) (o_step (d + 0)) scene poked
/-- Web.__eq__ -/
def C_Web__eq (G : Gd) : Prop := ∀ (self : Web) (other : Web), CallOk (G.call 8) [fun d => r_Web d self, fun d => r_Web d other] (f_Web__eq self other) rB
theorem y_Web__eq {G : Gd} (self : Web) (other : Web) : CallOk (runD G f8) [fun d => r_Web d self, fun d => r_Web d other] (f_Web__eq self other) rB := def_ok rfl rfl (by
  exact run_ret (ks := []) rfl fz_nil' (r_and ((r_isi (p_slot (r := r_Web) (v := other) rfl) (i_cls i_c_Web)).p) (fun _ => (r_and ((r_eq eqt_I (p_fld (p_slot (r := r_Web) (v := self) rfl) g_Web_size) (p_fld (p_slot (r := r_Web) (v := other) rfl) g_Web_size)).p) (fun _ => (r_eq (eqt (dat_T (dat_P2 dat_I dat_I)) (dat_T (dat_P2 dat_I dat_I)) (eqf_T (eqf_2 eqf_I eqf_I)) (by decide) (by decide)) (p_fld (p_slot (r := r_Web) (v := self) rfl) g_Web_lines) (p_fld (p_slot (r := r_Web) (v := other) rfl) g_Web_lines)).p)).p)) (fun d h => h))
theorem o_Web__eq (d : Nat) : C_Web__eq (Gn WF (d + 1)) := by
  intro self other
  have e : (Gn WF (d + 1)).call 8 = runD (Gn WF (d + 0)) f8 := rfl
  rw [e]
  exact y_Web__eq (G := Gn WF (d + 0)) self other
/-- _law_whole -/
def C_law_whole (G : Gd) : Prop := ∀ (value : Int), CallOk (G.call 21) [fun d => rI d value] (f_law_whole value) rB
theorem y_law_whole {G : Gd} (value : Int) : CallOk (runD G f21) [fun d => rI d value] (f_law_whole value) rB := def_ok rfl rfl (by
  exact run_ret (ks := []) rfl fz_nil' (r_and ((r_isi (p_slot (r := rI) (v := value) rfl) i_Ii).p) (fun _ => (r_not ((r_isi (p_slot (r := rI) (v := value) rfl) i_Ib).p)).p)) (fun d h => h))
theorem o_law_whole (d : Nat) : C_law_whole (Gn WF (d + 1)) := by
  intro value
  have e : (Gn WF (d + 1)).call 21 = runD (Gn WF (d + 0)) f21 := rfl
  rw [e]
  exact y_law_whole (G := Gn WF (d + 0)) value
/-- _law_row -/
def C_law_row (G : Gd) : Prop := ∀ (value : (List Int)) (many : Int), CallOk (G.call 29) [fun d => (rs .T rI) d value, fun d => rI d many] (f_law_row value many) rB
theorem y_law_row {G : Gd} (c_law_whole : C_law_whole G) (value : (List Int)) (many : Int) : CallOk (runD G f29) [fun d => (rs .T rI) d value, fun d => rI d many] (f_law_row value many) rB := def_ok rfl rfl (by
  refine run_bind fun t_1 h_t_1 => ?_
  exact run_ret (ks := [0, 2, 2]) rfl (fz_same rfl (fun d => fr_T d _) (fz_skip rfl (fz_skip rfl fz_nil'))) (r_andM ((r_isi (p_slot (r := (rs .T rI)) (v := value) rfl) i_Tt).p) h_t_1 (em_bind fun t h_t => em_ok ((r_andM ((r_eq eqt_I ((r_len (p_slot (r := (rs .T rI)) (v := value) rfl)).p) (p_slot (r := rI) (v := many) rfl)).p) h_t (em_bind fun l h_l => em_ok ((r_eq eqt_I ((r_len ((r_lcPF (r := rI) (r' := rI) (f := fun x : Int => .ok (x)) (ct := fun x : Int => (f_law_whole x).bind fun y => .ok ((!y))) (Γb := fun x => [some fun d => (rs .T rI) d value, some fun d => rI d many, some fun d => rI d x]) (it_T (r_slot (r := (rs .T rI)) (v := value) rfl zf_T)) (fun x => b_name) (fun x => em_bind fun y h_y => em_ok (t_B ((r_not ((r_call (c_law_whole x) (f_cons (p := fun d => rI d x) (r_slot (r := rI) (v := x) rfl zf_I) (fun d h => fr_I _ _ h) f_nil) h_y).p)).p))) (fun x => em_ok (r_slot (r := rI) (v := x) rfl zf_I)) h_l).p)).p) ((r_int 0).p)).p))).p))) (fun d h => h))
theorem o_law_row (d : Nat) : C_law_row (Gn WF (d + 2)) := by
  intro value many
  have e : (Gn WF (d + 2)).call 29 = runD (Gn WF (d + 1)) f29 := rfl
  rw [e]
  exact y_law_row (G := Gn WF (d + 1)) (o_law_whole (d + 0)) value many
/-- _law_is_scene -/
def C_law_is_scene (G : Gd) : Prop := ∀ (scene : Scene) (web : Web) (picture : (List Int)), CallOk (G.call 30) [fun d => r_Scene d scene, fun d => r_Web d web, fun d => (rs .T rI) d picture] (f_law_is_scene scene web picture) rB
theorem y_law_is_scene {G : Gd} (c_Web__eq : C_Web__eq G) (c_law_row : C_law_row G) (s_Web_eq : G.spec 0 (.cmp .Eq) = some 8) (scene : Scene) (web : Web) (picture : (List Int)) : CallOk (runD G f30) [fun d => r_Scene d scene, fun d => r_Web d web, fun d => (rs .T rI) d picture] (f_law_is_scene scene web picture) rB := def_ok rfl rfl (by
  refine run_bind fun t h_t => ?_
  refine run_iteT (ks := []) rfl fz_nil' (t_B ((r_orM ((r_not ((r_isi (p_slot (r := r_Scene) (v := scene) rfl) (i_cls i_c_Scene)).p)).p) h_t (em_bind fun q h_q => em_ok ((r_not ((r_eqO s_Web_eq i_c_Web i_c_Web (p_fld (p_slot (r := r_Scene) (v := scene) rfl) g_Scene_web) (p_slot (r := r_Web) (v := web) rfl) (c_Web__eq scene.web web) h_q).p)).p))).p)) (fun _ => ?_) (fun _ => ?_)
  · exact run_ret (ks := []) rfl fz_nil' (r_bl false) (fun d h => h)
  refine run_bind fun y h_y => ?_
  exact run_ret (ks := []) rfl fz_nil' (r_and ((r_call (c_law_row scene.picture (picture.length : Int)) (f_cons (p := fun d => (rs .T rI) d scene.picture) (r_fld (p_slot (r := r_Scene) (v := scene) rfl) g_Scene_picture zf_T) (fun d h => fr_T _ _ h) (f_cons (p := fun d => rI d (picture.length : Int)) (r_len (p_slot (r := (rs .T rI)) (v := picture) rfl)) (fun d h => fr_I _ _ h) f_nil)) h_y).p) (fun _ => (r_eq (eqt (dat_T dat_I) (dat_T dat_I) (eqf_T eqf_I) (by decide) (by decide)) (p_fld (p_slot (r := r_Scene) (v := scene) rfl) g_Scene_picture) ((r_tuple (p_slot (r := (rs .T rI)) (v := picture) rfl) zf_I).p)).p)) (fun d h => h))
theorem o_law_is_scene (d : Nat) : C_law_is_scene (Gn WF (d + 3)) := by
  intro scene web picture
  have e : (Gn WF (d + 3)).call 30 = runD (Gn WF (d + 2)) f30 := rfl
  rw [e]
  exact y_law_is_scene (G := Gn WF (d + 2)) (o_Web__eq (d + 1)) (o_law_row (d + 0)) rfl scene web picture
/-- _law_asked -/
def C_law_asked (G : Gd) : Prop := ∀ (scene : Scene) (web : Web) (near : (List (List Int))) (picture : (List Int)) (poked_places : (List Int)), CallOk (G.call 34) [fun d => r_Scene d scene, fun d => r_Web d web, fun d => (rs .F (rs .F rI)) d near, fun d => (rs .T rI) d picture, fun d => (rs .F rI) d poked_places] (f_law_asked scene web near picture poked_places) rB
theorem y_law_asked {G : Gd} (c_law_back : C_law_back G) (c_law_mirror : C_law_mirror G) (c_law_step : C_law_step G) (c_back : C_back G) (c_law_is_scene : C_law_is_scene G) (scene : Scene) (web : Web) (near : (List (List Int))) (picture : (List Int)) (poked_places : (List Int)) : CallOk (runD G f34) [fun d => r_Scene d scene, fun d => r_Web d web, fun d => (rs .F (rs .F rI)) d near, fun d => (rs .T rI) d picture, fun d => (rs .F rI) d poked_places] (f_law_asked scene web near picture poked_places) rB := def_ok rfl rfl (by
  refine run_bind fun y h_y => ?_
  refine run_asg (ks := [2, 3, 4]) rfl (fz_same rfl (fun d => (fr_F (fr_F fr_I)) d _) (fz_same rfl (fun d => fr_T d _) (fz_same rfl (fun d => (fr_F fr_I) d _) fz_nil'))) (r_call (c_law_back near picture poked_places) (f_cons (p := fun d => (rs .F (rs .F rI)) d near) (r_slot (r := (rs .F (rs .F rI))) (v := near) rfl zf_F) (fun d h => (fr_F (fr_F fr_I)) _ _ h) (f_cons (p := fun d => (rs .T rI) d picture) (r_slot (r := (rs .T rI)) (v := picture) rfl zf_T) (fun d h => fr_T _ _ h) (f_cons (p := fun d => (rs .F rI) d poked_places) (r_slot (r := (rs .F rI)) (v := poked_places) rfl zf_F) (fun d h => (fr_F fr_I) _ _ h) f_nil))) h_y) b_name ?_
  refine run_bind fun y_1 h_y_1 => ?_
  refine run_bind fun y_2 h_y_2 => ?_
  refine run_bind fun y_3 h_y_3 => ?_
  refine run_iteT (ks := [2, 3, 4]) rfl (fz_same rfl (fun d => (fr_F (fr_F fr_I)) d _) (fz_same rfl (fun d => fr_T d _) (fz_same rfl (fun d => (fr_F fr_I) d _) fz_nil'))) (t_B ((r_ne (eqt (dat_T dat_I) (dat_T dat_I) (eqf_T eqf_I) (by decide) (by decide)) (p_slot (r := (rs .T rI)) (v := y) rfl) ((r_call (c_law_mirror y_2) (f_cons (p := fun d => (rs .T rI) d y_2) (r_call (c_law_step near y_1 poked_places) (f_cons (p := fun d => (rs .F (rs .F rI)) d near) (r_slot (r := (rs .F (rs .F rI))) (v := near) rfl zf_F) (fun d h => (fr_F (fr_F fr_I)) _ _ h) (f_cons (p := fun d => (rs .T rI) d y_1) (r_call (c_law_mirror picture) (f_cons (p := fun d => (rs .T rI) d picture) (r_slot (r := (rs .T rI)) (v := picture) rfl zf_T) (fun d h => fr_T _ _ h) f_nil) h_y_1) (fun d h => fr_T _ _ h) (f_cons (p := fun d => (rs .F rI) d poked_places) (r_slot (r := (rs .F rI)) (v := poked_places) rfl zf_F) (fun d h => (fr_F fr_I) _ _ h) f_nil))) h_y_2) (fun d h => fr_T _ _ h) f_nil) h_y_3).p)).p)) (fun _ => ?_) (fun _ => ?_)
  · exact run_ret (ks := []) rfl fz_nil' (r_bl false) (fun d h => h)
  refine run_asg (ks := []) rfl fz_nil' (r_list (p_slot (r := (rs .F rI)) (v := poked_places) rfl) zf_I) b_name ?_
  refine run_bind fun y_4 h_y_4 => ?_
  refine run_bind fun y_5 h_y_5 => ?_
  refine run_iteT (ks := [0, 6, 1, 5]) rfl (fz_same rfl (fun d => fr_c_Scene d _) (fz_cons (p' := fun d => (rs .F rI) d poked_places) rfl (fun d => (fr_W fr_I) d _) (fz_same rfl (fun d => fr_c_Web d _) (fz_same rfl (fun d => fr_T d _) fz_nil')))) (t_B ((r_or ((r_not ((r_call (c_law_is_scene y_4 web y) (f_cons (p := fun d => r_Scene d y_4) (r_call (c_back scene poked_places) (f_cons (p := fun d => r_Scene d scene) (r_slot (r := r_Scene) (v := scene) rfl zf_c_Scene) (fun d h => fr_c_Scene _ _ h) (f_cons (p := fun d => (rs .Q rI) d poked_places) (r_slot (r := (rs .F rI)) (v := poked_places) rfl zf_F) (fun d h => (sb_FQ sb_id) _ _ ((fr_F fr_I) _ _ h)) f_nil)) h_y_4) (fun d h => fr_c_Scene _ _ h) (f_cons (p := fun d => r_Web d web) (r_slot (r := r_Web) (v := web) rfl zf_c_Web) (fun d h => fr_c_Web _ _ h) (f_cons (p := fun d => (rs .T rI) d y) (r_slot (r := (rs .T rI)) (v := y) rfl zf_T) (fun d h => fr_T _ _ h) f_nil))) h_y_5).p)).p) (fun _ => (r_ne (eqt (dat_L (.inr (.inl rfl)) dat_I) (dat_L (.inr (.inl rfl)) dat_I) (eqf_L eqf_I) (by decide) (by decide)) (p_slot (r := (rs .F rI)) (v := poked_places) rfl) (p_slot (r := (rs .F rI)) (v := poked_places) rfl)).p)).p)) (fun _ => ?_) (fun _ => ?_)
  · exact run_ret (ks := []) rfl fz_nil' (r_bl false) (fun d h => h)
  refine run_bind fun y_6 h_y_6 => ?_
  refine run_bind fun y_7 h_y_7 => ?_
  refine run_bind fun y_8 h_y_8 => ?_
  refine run_iteT (ks := [0, 1, 2, 3]) rfl (fz_same rfl (fun d => fr_c_Scene d _) (fz_same rfl (fun d => fr_c_Web d _) (fz_same rfl (fun d => (fr_F (fr_F fr_I)) d _) (fz_same rfl (fun d => fr_T d _) fz_nil')))) (t_B ((r_not ((r_call (c_law_is_scene y_6 web y_7) (f_cons (p := fun d => r_Scene d y_6) (r_call (c_back scene []) (f_cons (p := fun d => r_Scene d scene) (r_slot (r := r_Scene) (v := scene) rfl zf_c_Scene) (fun d h => fr_c_Scene _ _ h) f_nil) h_y_6 (dd := [.tup []]) (qs := [fun d => (rs .Q rI) d []]) ⟨_, _, rfl, ⟨trivial, [], rfl, rfl⟩, rfl⟩ rfl rfl) (fun d h => fr_c_Scene _ _ h) (f_cons (p := fun d => r_Web d web) (r_slot (r := r_Web) (v := web) rfl zf_c_Web) (fun d h => fr_c_Web _ _ h) (f_cons (p := fun d => (rs .T rI) d y_7) (r_call (c_law_back near picture []) (f_cons (p := fun d => (rs .F (rs .F rI)) d near) (r_slot (r := (rs .F (rs .F rI))) (v := near) rfl zf_F) (fun d h => (fr_F (fr_F fr_I)) _ _ h) (f_cons (p := fun d => (rs .T rI) d picture) (r_slot (r := (rs .T rI)) (v := picture) rfl zf_T) (fun d h => fr_T _ _ h) (f_cons (p := fun d => (rs .F rI) d []) (r_lst (xs := ([] : List Int)) (r := rI) a_nil rfl al_nil) (fun d h => (fr_W fr_I) _ _ h) f_nil))) h_y_7) (fun d h => fr_T _ _ h) f_nil))) h_y_8).p)).p)) (fun _ => ?_) (fun _ => ?_)
  · exact run_ret (ks := []) rfl fz_nil' (r_bl false) (fun d h => h)
  refine run_bind fun l h_l => ?_
  refine run_bind fun y_9 h_y_9 => ?_
  refine run_bind fun y_10 h_y_10 => ?_
  refine run_iteT (ks := [0, 1, 5]) rfl (fz_same rfl (fun d => fr_c_Scene d _) (fz_same rfl (fun d => fr_c_Web d _) (fz_same rfl (fun d => fr_T d _) fz_nil'))) (t_B ((r_not ((r_call (c_law_is_scene y_9 web y) (f_cons (p := fun d => r_Scene d y_9) (r_call (c_back scene l) (f_cons (p := fun d => r_Scene d scene) (r_slot (r := r_Scene) (v := scene) rfl zf_c_Scene) (fun d h => fr_c_Scene _ _ h) (f_cons (p := fun d => (rs .Q rI) d l) (r_tuple ((r_cat (.inr (.inl rfl)) (.inr (.inl rfl)) (p_slot (r := (rs .F rI)) (v := poked_places) rfl) (p_slot (r := (rs .F rI)) (v := poked_places) rfl) zf_I h_l).p) zf_I) (fun d h => (sb_TQ sb_id) _ _ (fr_T _ _ h)) f_nil)) h_y_9) (fun d h => fr_c_Scene _ _ h) (f_cons (p := fun d => r_Web d web) (r_slot (r := r_Web) (v := web) rfl zf_c_Web) (fun d h => fr_c_Web _ _ h) (f_cons (p := fun d => (rs .T rI) d y) (r_slot (r := (rs .T rI)) (v := y) rfl zf_T) (fun d h => fr_T _ _ h) f_nil))) h_y_10).p)).p)) (fun _ => ?_) (fun _ => ?_)
  · exact run_ret (ks := []) rfl fz_nil' (r_bl false) (fun d h => h)
  refine run_bind fun y_11 h_y_11 => ?_
  refine run_bind fun t h_t => ?_
  exact run_ret (ks := [0, 1, 3, 0, 1, 2, 3]) rfl (fz_same rfl (fun d => fr_c_Scene d _) (fz_same rfl (fun d => fr_c_Web d _) (fz_same rfl (fun d => fr_T d _) (fz_same rfl (fun d => fr_c_Scene d _) (fz_same rfl (fun d => fr_c_Web d _) (fz_same rfl (fun d => (fr_F (fr_F fr_I)) d _) (fz_same rfl (fun d => fr_T d _) fz_nil'))))))) (r_andM ((r_call (c_law_is_scene scene web picture) (f_cons (p := fun d => r_Scene d scene) (r_slot (r := r_Scene) (v := scene) rfl zf_c_Scene) (fun d h => fr_c_Scene _ _ h) (f_cons (p := fun d => r_Web d web) (r_slot (r := r_Web) (v := web) rfl zf_c_Web) (fun d h => fr_c_Web _ _ h) (f_cons (p := fun d => (rs .T rI) d picture) (r_slot (r := (rs .T rI)) (v := picture) rfl zf_T) (fun d h => fr_T _ _ h) f_nil))) h_y_11).p) h_t (em_bind fun y_12 h_y_12 => em_bind fun y_13 h_y_13 => em_bind fun y_14 h_y_14 => em_ok ((r_call (c_law_is_scene y_12 web y_13) (f_cons (p := fun d => r_Scene d y_12) (r_call (c_back scene []) (f_cons (p := fun d => r_Scene d scene) (r_slot (r := r_Scene) (v := scene) rfl zf_c_Scene) (fun d h => fr_c_Scene _ _ h) (f_cons (p := fun d => (rs .Q rI) d []) (r_tupS (xs := ([] : List Int)) (r := rI) f_nil rfl al_nil) (fun d h => (sb_TQ sb_id) _ _ (fr_T _ _ h)) f_nil)) h_y_12) (fun d h => fr_c_Scene _ _ h) (f_cons (p := fun d => r_Web d web) (r_slot (r := r_Web) (v := web) rfl zf_c_Web) (fun d h => fr_c_Web _ _ h) (f_cons (p := fun d => (rs .T rI) d y_13) (r_call (c_law_back near picture []) (f_cons (p := fun d => (rs .F (rs .F rI)) d near) (r_slot (r := (rs .F (rs .F rI))) (v := near) rfl zf_F) (fun d h => (fr_F (fr_F fr_I)) _ _ h) (f_cons (p := fun d => (rs .T rI) d picture) (r_slot (r := (rs .T rI)) (v := picture) rfl zf_T) (fun d h => fr_T _ _ h) (f_cons (p := fun d => (rs .F rI) d []) (r_lst (xs := ([] : List Int)) (r := rI) a_nil rfl al_nil) (fun d h => (fr_W fr_I) _ _ h) f_nil))) h_y_13) (fun d h => fr_T _ _ h) f_nil))) h_y_14).p))) (fun d h => h))
theorem o_law_asked (d : Nat) : C_law_asked (Gn WF (d + 6)) := by
  intro scene web near picture poked_places
  have e : (Gn WF (d + 6)).call 34 = runD (Gn WF (d + 5)) f34 := rfl
  rw [e]
  exact y_law_asked (G := Gn WF (d + 5)) (o_law_back (d + 4)) (o_law_mirror (d + 4)) (o_law_step (d + 4)) (o_back (d + 0)) (o_law_is_scene (d + 2)) scene web near picture poked_places
/-- law -/
def C_law (G : Gd) : Prop := ∀ (script : (List Int)), CallOk (G.call 35) [fun d => (rs .R rI) d script] (f_law script) rB
theorem y_law {G : Gd} (c_law_scene : C_law_scene G) (c_law_cell : C_law_cell G) (c_law_digits : C_law_digits G) (c_law_thread : C_law_thread G) (c_law_near : C_law_near G) (c_Web_new : C_Web_new G) (c_Scene_new : C_Scene_new G) (c_law_asked : C_law_asked G) (c_law_mirror : C_law_mirror G) (c_back : C_back G) (c_law_back : C_law_back G) (c_law_is_scene : C_law_is_scene G) (script : (List Int)) : CallOk (runD G f35) [fun d => (rs .R rI) d script] (f_law script) rB := def_ok rfl rfl (by
  refine run_bind fun y h_y => ?_
  refine run_asg (ks := [0]) rfl (fz_same rfl (fun d => (fr_R fr_I) d _) fz_nil') (r_call (c_law_scene script (0 : Int) (7 : Int)) (f_cons (p := fun d => (rs .R rI) d script) (r_slot (r := (rs .R rI)) (v := script) rfl zf_R) (fun d h => (fr_R fr_I) _ _ h) (f_cons (p := fun d => rI d (0 : Int)) (r_int 0) (fun d h => fr_I _ _ h) (f_cons (p := fun d => rI d (7 : Int)) (r_int 7) (fun d h => fr_I _ _ h) f_nil))) h_y) b_name ?_
  refine run_bind fun y_1 h_y_1 => ?_
  refine run_bind fun l h_l => ?_
  refine run_bind fun l_1 h_l_1 => ?_
  refine run_bind fun l_2 h_l_2 => ?_
  refine run_bind fun y_2 h_y_2 => ?_
  refine run_asg (ks := [0]) rfl (fz_same rfl (fun d => (fr_R fr_I) d _) fz_nil') (r_call (c_law_digits y_1 l_2) (f_cons (p := fun d => rI d y_1) (r_call (c_law_cell script (4 : Int)) (f_cons (p := fun d => (rs .R rI) d script) (r_slot (r := (rs .R rI)) (v := script) rfl zf_R) (fun d h => (fr_R fr_I) _ _ h) (f_cons (p := fun d => rI d (4 : Int)) (r_int 4) (fun d h => fr_I _ _ h) f_nil)) h_y_1) (fun d h => fr_I _ _ h) (f_cons (p := fun d => (rs .F rI) d l_2) (r_cat (.inl rfl) (.inl rfl) ((r_cat (.inl rfl) (.inl rfl) ((r_lst (a_cons (p := fun d => rI d (12 : Int)) (r_int 12) (fun d h => h) (a_cons (p := fun d => rI d (7 : Int)) (r_int 7) (fun d h => h) a_nil)) rfl (al_cons (al_cons al_nil))).p) ((r_rep ((r_lst (a_cons (p := fun d => rI d (11 : Int)) (r_int 11) (fun d h => h) a_nil) rfl (al_cons al_nil)).p) ((r_int 6).p) zf_I h_l).p) zf_I h_l_1).p) ((r_lst (a_cons (p := fun d => rI d (6 : Int)) (r_int 6) (fun d h => h) a_nil) rfl (al_cons al_nil)).p) zf_I h_l_2) (fun d h => (fr_W fr_I) _ _ h) f_nil)) h_y_2) b_name ?_
  refine run_bind fun x h_x => ?_
  refine run_iteJ (fun drawn : (Int × (List (Int × Int)) × (List Int)) => [some fun d => (rs .R rI) d script, some fun d => (rH3 .W rI (rs .F (rP2 rI rI)) (rs .T rI)) d drawn, some fun d => (rs .F rI) d y_2, none, none, none, none, none, none, none, none, none, none]) (ks := []) rfl fz_nil' (t_B ((r_eq eqt_I (p_idx (p_slot (r := (rs .F rI)) (v := y_2) rfl) ((r_int 8).p) h_x) ((r_int 0).p)).p)) (fun _ => ?_) (fun _ => ?_) fun drawn => ?_
  · refine run_bind fun y_3 h_y_3 => ?_
    refine run_bind fun l_3 h_l_3 => ?_
    refine run_bind fun l_4 h_l_4 => ?_
    refine run_bind fun y_4 h_y_4 => ?_
    refine run_bind fun y_5 h_y_5 => ?_
    refine run_asg (ks := [0]) rfl (fz_same rfl (fun d => (fr_R fr_I) d _) fz_nil') (r_call (c_law_thread y_4) (f_cons (p := fun d => (rs .F rI) d y_4) (r_call (c_law_digits y_3 l_4) (f_cons (p := fun d => rI d y_3) (r_call (c_law_cell script (3 : Int)) (f_cons (p := fun d => (rs .R rI) d script) (r_slot (r := (rs .R rI)) (v := script) rfl zf_R) (fun d h => (fr_R fr_I) _ _ h) (f_cons (p := fun d => rI d (3 : Int)) (r_int 3) (fun d h => fr_I _ _ h) f_nil)) h_y_3) (fun d h => fr_I _ _ h) (f_cons (p := fun d => (rs .F rI) d l_4) (r_cat (.inl rfl) (.inl rfl) ((r_lst (a_cons (p := fun d => rI d (50 : Int)) (r_int 50) (fun d h => h) (a_cons (p := fun d => rI d (60 : Int)) (r_int 60) (fun d h => h) (a_cons (p := fun d => rI d (60 : Int)) (r_int 60) (fun d h => h) a_nil))) rfl (al_cons (al_cons (al_cons al_nil)))).p) ((r_rep ((r_lst (a_cons (p := fun d => rI d (5 : Int)) (r_int 5) (fun d h => h) (a_cons (p := fun d => rI d (3 : Int)) (r_int 3) (fun d h => h) a_nil)) rfl (al_cons (al_cons al_nil))).p) ((r_int 60).p) zf_I h_l_3).p) zf_I h_l_4) (fun d h => (fr_W fr_I) _ _ h) f_nil)) h_y_4) (fun d h => (fr_F fr_I) _ _ h) f_nil) h_y_5) b_name ?_
    exact run_nil fun ρ h => (wk_k (wk_k (wk_k (wk_d (wk_d (wk_d (wk_d (wk_d (wk_d (wk_d (wk_d (wk_d (wk_d wk_nil))))))))))))) ρ h
  · exact run_nil fun ρ h => (wk_k (wk_k (wk_k (wk_d (wk_d (wk_d (wk_d (wk_d (wk_d (wk_d (wk_d (wk_d (wk_d wk_nil))))))))))))) ρ h
  refine run_bind fun x_1 h_x_1 => ?_
  refine run_asgB (ks := []) rfl fz_nil' (r_mulL (p_it (p_slot (r := (rH3 .W rI (rs .F (rP2 rI rI)) (rs .T rI))) (v := drawn) rfl) iH3_0) ((r_intB ((r_gt (p_idx (p_slot (r := (rs .F rI)) (v := y_2) rfl) ((r_int 0).p) h_x_1) ((r_int 0).p)).p)).p) (sm_r (sm_b _))) (fun _ => b_name) fun size => ?_
  refine run_bind fun l_5 h_l_5 => ?_
  refine run_asg (ks := [10]) rfl (fz_skip rfl fz_nil') (r_lcF (r := (rP2 rI rI)) (Γb := fun line => [some fun d => (rs .R rI) d script, some fun d => (rH3 .W rI (rs .F (rP2 rI rI)) (rs .T rI)) d drawn, some fun d => (rs .F rI) d y_2, some fun d => rI d size, none, none, none, none, none, none, some fun d => (rP2 rI rI) d line, none, none]) (it_L (.inr (.inl rfl)) fr_P2 (r_it (p_slot (r := (rH3 .W rI (rs .F (rP2 rI rI)) (rs .T rI))) (v := drawn) rfl) iH3_1 zf_F)) (fun line => b_name) (fun line => t_B ((r_gt (p_slot (r := rI) (v := size) rfl) ((r_int 0).p)).p)) (fun line => r_slot (r := (rP2 rI rI)) (v := line) rfl zf_P2) h_l_5) b_name ?_
  refine run_asgB (ks := []) rfl fz_nil' (r_slT (p_it (p_slot (r := (rH3 .W rI (rs .F (rP2 rI rI)) (rs .T rI))) (v := drawn) rfl) iH3_2) o_skip (o_int (p_slot (r := rI) (v := size) rfl))) (fun _ => b_name) fun picture => ?_
  refine run_bind fun y_6 h_y_6 => ?_
  refine run_asg (ks := [3, 4]) rfl (fz_same rfl (fun d => fr_I d _) (fz_cons (p' := fun d => (rs .F (rP2 rI rI)) d l_5) rfl (fun d => (fr_W fr_P2) d _) fz_nil')) (r_call (c_law_near size l_5) (f_cons (p := fun d => rI d size) (r_slot (r := rI) (v := size) rfl zf_I) (fun d h => fr_I _ _ h) (f_cons (p := fun d => (rs .F (rP2 rI rI)) d l_5) (r_slot (r := (rs .F (rP2 rI rI))) (v := l_5) rfl zf_F) (fun d h => (fr_F fr_P2) _ _ h) f_nil)) h_y_6) b_name ?_
  refine run_bind fun o h_o => ?_
  refine run_asg (ks := [3, 4]) rfl (fz_same rfl (fun d => fr_I d _) (fz_same rfl (fun d => (fr_F fr_P2) d _) fz_nil')) (r_mk (c_Web_new size l_5) (f_cons (p := fun d => rI d size) (r_slot (r := rI) (v := size) rfl zf_I) (fun d h => fr_I _ _ h) (f_cons (p := fun d => (rs .F (rP2 rI rI)) d l_5) (r_slot (r := (rs .F (rP2 rI rI))) (v := l_5) rfl zf_F) (fun d h => (fr_F fr_P2) _ _ h) f_nil)) h_o) b_name ?_
  refine run_bind fun x_2 h_x_2 => ?_
  refine run_bind fun r h_r => ?_
  refine run_bind fun l_6 h_l_6 => ?_
  refine run_asg (ks := []) rfl fz_nil' (r_lcP (r := rI) (r' := rI) (f := fun k : Int => (getI y_2 ((2 : Int) + k)).bind fun x_3 => .ok ((x_3 - (2 : Int)))) (Γb := fun k => [some fun d => (rs .R rI) d script, some fun d => (rH3 .W rI (rs .F (rP2 rI rI)) (rs .T rI)) d drawn, some fun d => (rs .F rI) d y_2, some fun d => rI d size, some fun d => (rs .F (rP2 rI rI)) d l_5, some fun d => (rs .T rI) d picture, some fun d => (rs .W (rs .W rI)) d y_6, some fun d => r_Web d o, none, none, none, some fun d => rI d k, none]) (it_r1 (p_idx (p_slot (r := (rs .F rI)) (v := y_2) rfl) ((r_int 1).p) h_x_2) h_r) (fun k => b_name) (fun k => em_bind fun x_3 h_x_3 => em_ok (r_sub (p_idx (p_slot (r := (rs .F rI)) (v := y_2) rfl) ((r_add ((r_int 2).p) (p_slot (r := rI) (v := k) rfl)).p) h_x_3) ((r_int 2).p))) h_l_6) b_name ?_
  refine run_bind fun x_4 h_x_4 => ?_
  refine run_iteJ (fun poked_places : (List Int) => [some fun d => (rs .R rI) d script, some fun d => (rH3 .W rI (rs .F (rP2 rI rI)) (rs .T rI)) d drawn, some fun d => (rs .F rI) d y_2, some fun d => rI d size, some fun d => (rs .F (rP2 rI rI)) d l_5, some fun d => (rs .T rI) d picture, some fun d => (rs .W (rs .W rI)) d y_6, some fun d => r_Web d o, some fun d => (rs .W rI) d poked_places, none, none, none, none]) (ks := []) rfl fz_nil' (t_B ((r_eq eqt_I (p_idx (p_slot (r := (rs .F rI)) (v := y_2) rfl) ((r_int 8).p) h_x_4) ((r_int 0).p)).p)) (fun _ => ?_) (fun _ => ?_) fun poked_places => ?_
  · refine run_bind fun l_7 h_l_7 => ?_
    refine run_asg (ks := [8]) rfl (fz_cons (p' := fun d => (rs .F rI) d l_6) rfl (fun d => (fr_W fr_I) d _) fz_nil') (r_lcM (r := rI) (Γb := fun place => [some fun d => (rs .R rI) d script, some fun d => (rH3 .W rI (rs .F (rP2 rI rI)) (rs .T rI)) d drawn, some fun d => (rs .F rI) d y_2, some fun d => rI d size, some fun d => (rs .F (rP2 rI rI)) d l_5, some fun d => (rs .T rI) d picture, some fun d => (rs .W (rs .W rI)) d y_6, some fun d => r_Web d o, some fun d => (rs .F rI) d l_6, none, none, none, some fun d => rI d place]) (it_L (.inr (.inl rfl)) fr_I (r_slot (r := (rs .F rI)) (v := l_6) rfl zf_F)) (fun place => b_name) (fun place => r_mulL ((r_int 6).p) (p_slot (r := rI) (v := place) rfl) (sm_l (by decide))) h_l_7) b_name ?_
    exact run_nil fun ρ h => (wk_k (wk_k (wk_k (wk_k (wk_k (wk_k (wk_k (wk_k (wk_k (wk_d (wk_d (wk_d (wk_d wk_nil))))))))))))) ρ h
  · exact run_nil fun ρ h => (wk_k (wk_k (wk_k (wk_k (wk_k (wk_k (wk_k (wk_k (wk_k (wk_d (wk_d (wk_d (wk_d wk_nil))))))))))))) ρ h
  refine run_bind fun o_1 h_o_1 => ?_
  refine run_bind fun y_7 h_y_7 => ?_
  refine run_iteT (ks := [7, 5, 7, 6, 5, 8]) rfl (fz_same rfl (fun d => fr_c_Web d _) (fz_same rfl (fun d => fr_T d _) (fz_same rfl (fun d => fr_c_Web d _) (fz_cons (p' := fun d => (rs .F (rs .F rI)) d y_6) rfl (fun d => (fr_W (fr_W fr_I)) d _) (fz_same rfl (fun d => fr_T d _) (fz_cons (p' := fun d => (rs .F rI) d poked_places) rfl (fun d => (fr_W fr_I) d _) fz_nil')))))) (t_B ((r_not ((r_call (c_law_asked o_1 o y_6 picture poked_places) (f_cons (p := fun d => r_Scene d o_1) (r_mk (c_Scene_new o picture) (f_cons (p := fun d => r_Web d o) (r_slot (r := r_Web) (v := o) rfl zf_c_Web) (fun d h => fr_c_Web _ _ h) (f_cons (p := fun d => (rs .Q rI) d picture) (r_slot (r := (rs .T rI)) (v := picture) rfl zf_T) (fun d h => (sb_TQ sb_id) _ _ (fr_T _ _ h)) f_nil)) h_o_1) (fun d h => fr_c_Scene _ _ h) (f_cons (p := fun d => r_Web d o) (r_slot (r := r_Web) (v := o) rfl zf_c_Web) (fun d h => fr_c_Web _ _ h) (f_cons (p := fun d => (rs .F (rs .F rI)) d y_6) (r_slot (r := (rs .F (rs .F rI))) (v := y_6) rfl zf_F) (fun d h => (fr_F (fr_F fr_I)) _ _ h) (f_cons (p := fun d => (rs .T rI) d picture) (r_slot (r := (rs .T rI)) (v := picture) rfl zf_T) (fun d h => fr_T _ _ h) (f_cons (p := fun d => (rs .F rI) d poked_places) (r_slot (r := (rs .F rI)) (v := poked_places) rfl zf_F) (fun d h => (fr_F fr_I) _ _ h) f_nil))))) h_y_7).p)).p)) (fun _ => ?_) (fun _ => ?_)
  · exact run_ret (ks := []) rfl fz_nil' (r_bl false) (fun d h => h)
  refine run_bind fun y_8 h_y_8 => ?_
  refine run_asg (ks := [5]) rfl (fz_same rfl (fun d => fr_T d _) fz_nil') (r_call (c_law_mirror picture) (f_cons (p := fun d => (rs .T rI) d picture) (r_slot (r := (rs .T rI)) (v := picture) rfl zf_T) (fun d h => fr_T _ _ h) f_nil) h_y_8) b_name ?_
  refine run_bind fun o_2 h_o_2 => ?_
  refine run_bind fun y_9 h_y_9 => ?_
  refine run_bind fun y_10 h_y_10 => ?_
  refine run_bind fun y_11 h_y_11 => ?_
  exact run_ret (ks := [7, 9, 8, 7, 6, 9, 8]) rfl (fz_same rfl (fun d => fr_c_Web d _) (fz_same rfl (fun d => fr_T d _) (fz_same rfl (fun d => (fr_F fr_I) d _) (fz_same rfl (fun d => fr_c_Web d _) (fz_same rfl (fun d => (fr_F (fr_F fr_I)) d _) (fz_same rfl (fun d => fr_T d _) (fz_same rfl (fun d => (fr_F fr_I) d _) fz_nil'))))))) (r_call (c_law_is_scene y_9 o y_10) (f_cons (p := fun d => r_Scene d y_9) (r_call (c_back o_2 poked_places) (f_cons (p := fun d => r_Scene d o_2) (r_mk (c_Scene_new o y_8) (f_cons (p := fun d => r_Web d o) (r_slot (r := r_Web) (v := o) rfl zf_c_Web) (fun d h => fr_c_Web _ _ h) (f_cons (p := fun d => (rs .Q rI) d y_8) (r_slot (r := (rs .T rI)) (v := y_8) rfl zf_T) (fun d h => (sb_TQ sb_id) _ _ (fr_T _ _ h)) f_nil)) h_o_2) (fun d h => fr_c_Scene _ _ h) (f_cons (p := fun d => (rs .Q rI) d poked_places) (r_slot (r := (rs .F rI)) (v := poked_places) rfl zf_F) (fun d h => (sb_FQ sb_id) _ _ ((fr_F fr_I) _ _ h)) f_nil)) h_y_9) (fun d h => fr_c_Scene _ _ h) (f_cons (p := fun d => r_Web d o) (r_slot (r := r_Web) (v := o) rfl zf_c_Web) (fun d h => fr_c_Web _ _ h) (f_cons (p := fun d => (rs .T rI) d y_10) (r_call (c_law_back y_6 y_8 poked_places) (f_cons (p := fun d => (rs .F (rs .F rI)) d y_6) (r_slot (r := (rs .F (rs .F rI))) (v := y_6) rfl zf_F) (fun d h => (fr_F (fr_F fr_I)) _ _ h) (f_cons (p := fun d => (rs .T rI) d y_8) (r_slot (r := (rs .T rI)) (v := y_8) rfl zf_T) (fun d h => fr_T _ _ h) (f_cons (p := fun d => (rs .F rI) d poked_places) (r_slot (r := (rs .F rI)) (v := poked_places) rfl zf_F) (fun d h => (fr_F fr_I) _ _ h) f_nil))) h_y_10) (fun d h => fr_T _ _ h) f_nil))) h_y_11) (fun d h => h))
theorem main_of (h : ∀ ns : List Int, ns.length ≤ 63 → f_law ns = .ok true) (ns : List Int) (hl : ns.length ≤ 63) : runD (Gn WF 6) f35 [.lst .ro (ns.map D.int)] = some (.bl true) := by
  obtain ⟨d, e, h1⟩ := y_law (G := Gn WF (0 + 6)) (o_law_scene (0 + 4)) (o_law_cell (0 + 5)) (o_law_digits (0 + 5)) (o_law_thread (0 + 5)) (o_law_near (0 + 5)) (o_Web_new (0 + 4)) (o_Scene_new (0 + 4)) (o_law_asked (0 + 0)) (o_law_mirror (0 + 5)) (o_back (0 + 1)) (o_law_back (0 + 5)) (o_law_is_scene (0 + 3)) ns [.lst .ro (ns.map D.int)] ⟨_, _, rfl, ⟨trivial, _, rfl, ints_all2 ns⟩, rfl⟩ true (h ns hl)
  cases (h1 : d = _)
  exact e
end P36

/-! YT: reasoning about typed programs. -/
namespace Y
section
variable {α β γ σ : Type}
theorem P.okb (a : α) (f : α → P β) : (P.ok a).bind f = f a := by rw [P.bind]
theorem ixI_nat {n i : Nat} (h : i < n) : ixI n (i : Int) = some i := by
  unfold ixI
  rw [if_pos (by omega), if_pos (by omega), Int.toNat_natCast]
theorem getI_nat {xs : List α} {i : Nat} {v : α} (h : xs[i]? = some v) : getI xs (i : Int) = .ok v := by
  have hl := (List.getElem?_eq_some_iff.mp h).1
  unfold getI
  rw [ixI_nat hl, Option.bind_some, h]
  rfl
theorem getI_lt {xs : List α} {i : Int} (h0 : 0 ≤ i) (h1 : i < xs.length) (h : i.toNat < xs.length := by omega) : getI xs i = .ok xs[i.toNat] := by
  have := getI_nat (xs := xs) (i := i.toNat) (List.getElem?_eq_getElem h)
  rwa [Int.toNat_of_nonneg h0] at this
theorem getI_D {xs : List α} {i : Int} (d : α) (h0 : 0 ≤ i) (h1 : i < xs.length) : getI xs i = .ok (xs.getD i.toNat d) := by
  rw [getI_lt h0 h1, List.getD_eq_getElem?_getD, List.getElem?_eq_getElem (by omega)]
  rfl
theorem getI_some {xs : List α} {i : Int} {v : α} (h0 : 0 ≤ i) (h : xs[i.toNat]? = some v) : getI xs i = .ok v := by
  have := getI_nat (xs := xs) (i := i.toNat) h
  rwa [Int.toNat_of_nonneg h0] at this
theorem getI_ex {xs : List α} {i : Int} (h0 : 0 ≤ i) (h1 : i < xs.length) : ∃ v, getI xs i = .ok v := ⟨_, getI_lt h0 h1⟩
theorem sIx_nat {n d k : Nat} : sIx n d (some (k : Int)) = min k n := by
  show (if (k : Int) < 0 then ((k : Int) + (n : Int)).toNat else min (k : Int).toNat n) = min k n
  rw [if_neg (by omega), Int.toNat_natCast]
theorem slc_take {xs : List α} {k : Nat} (h : k ≤ xs.length) : slc xs none (some (k : Int)) = xs.take k := by
  unfold slc
  rw [sIx_nat, Nat.min_eq_left h]
  show ((xs.drop 0).take (k - 0)) = _
  rw [List.drop_zero, Nat.sub_zero]
theorem slc_drop {xs : List α} {k : Nat} (h : k ≤ xs.length) : slc xs (some (k : Int)) none = xs.drop k := by
  unfold slc
  rw [sIx_nat, Nat.min_eq_left h]
  show ((xs.drop k).take (xs.length - k)) = _
  rw [List.take_of_length_le (by rw [List.length_drop]; omega)]
theorem setI_ok {xs : List α} {i : Int} {x : α} (h0 : 0 ≤ i) (h1 : i < xs.length) : setI xs i x = .ok (xs.set i.toNat x) := by
  unfold setI; rw [if_pos ⟨h0, h1⟩]
theorem push_ok {xs : List α} {x : α} (h : xs.length < 100000) : push xs x = .ok (xs ++ [x]) := by
  unfold push; rw [if_pos h]
theorem pushAt_ok {xs : List (List α)} {i : Int} {x : α} {ys : List α} (h0 : 0 ≤ i) (h : xs[i.toNat]? = some ys) (hl : ys.length < 100000) : pushAt xs i x = .ok (xs.set i.toNat (ys ++ [x])) := by
  unfold pushAt; rw [h]; simp only [h0, hl, and_self, if_true]
theorem cat_ok {xs ys : List α} (h : xs.length + ys.length ≤ 100000) : cat xs ys = .ok (xs ++ ys) := by
  unfold cat; rw [if_pos h]
theorem rep_ok {xs : List α} {n : Nat} (h : n ≤ 100000) (h2 : xs.length * n ≤ 100000) : rep xs (n : Int) = .ok ((List.replicate n xs).flatten) := by
  unfold rep; rw [if_pos ⟨by omega, by omega, by rw [Int.toNat_natCast]; exact h2⟩, Int.toNat_natCast]
theorem small_of {i : Int} (h0 : -(2 ^ 64) < i) (h1 : i < 2 ^ 64) : small i = true := by
  unfold small; rw [decide_eq_true h0, decide_eq_true h1]; rfl
theorem mulI_ok {i j : Int} (h : small i = true ∨ small j = true) : mulI i j = .ok (i * j) := by
  unfold mulI
  rcases h with h | h <;> rw [h] <;> simp
theorem divI_ok {i j : Int} (h0 : 0 < j) (h1 : j < 1073741824) : divI i j = .ok (i / j) := by
  unfold divI; rw [decide_eq_true h0, decide_eq_true h1]; rfl
theorem modI_ok {i j : Int} (h0 : 0 < j) : modI i j = .ok (i % j) := by
  unfold modI; rw [if_pos h0]
theorem shlI_one {k : Nat} (h : k ≤ 1000000) : shlI 1 (k : Int) = .ok ((2 ^ k : Nat) : Int) := by
  unfold shlI shiftOk
  rw [decide_eq_true (by omega), decide_eq_true (by omega), show decide ((1 : Int).natAbs < 2 ^ 64) = true by decide]
  simp
theorem shrI_nat {m k : Nat} : shrI (m : Int) (k : Int) = .ok ((m / 2 ^ k : Nat) : Int) := by
  unfold shrI
  rw [if_pos (by omega), Int.toNat_natCast]
  simp
theorem rngOk_of {a b : Int} (h1 : -(2 ^ 62) ≤ a) (h2 : a < 2 ^ 62) (h3 : -(2 ^ 62) ≤ b) (h4 : b < 2 ^ 62) : rngOk a b = true := by
  unfold rngOk; rw [decide_eq_true h1, decide_eq_true h2, decide_eq_true h3, decide_eq_true h4]; rfl
def upto (n : Nat) : List Int := (List.range n).map fun k : Nat => (k : Int)
theorem upto_len (n : Nat) : (upto n).length = n := by unfold upto; simp
theorem upto_get {n i : Nat} {x : Int} (h : (upto n)[i]? = some x) : x = i ∧ i < n := by
  unfold upto at h
  rw [List.getElem?_map] at h
  obtain ⟨k, hk, rfl⟩ := Option.map_eq_some_iff.mp h
  have hl := (List.getElem?_eq_some_iff.mp hk).1
  rw [List.length_range] at hl
  rw [List.getElem?_range hl] at hk
  cases hk
  exact ⟨rfl, hl⟩
theorem upto_mem {n : Nat} {x : Int} : x ∈ upto n ↔ 0 ≤ x ∧ x < n := by
  unfold upto
  rw [List.mem_map]
  constructor
  · rintro ⟨k, hk, rfl⟩
    have := List.mem_range.mp hk
    omega
  · rintro ⟨h0, h1⟩
    exact ⟨x.toNat, List.mem_range.mpr (by omega), by omega⟩
theorem rng0_ok {n : Nat} (h : n < 2 ^ 62) : rng0 (n : Int) = .ok (upto n) := by
  unfold rng0 upto
  rw [rngOk_of (by omega) (by omega) (by omega) (by omega), Int.toNat_natCast]
  rfl
theorem rng0_int {j : Int} (h0 : 0 ≤ j) (h : j < 2 ^ 62) : rng0 j = .ok (upto j.toNat) := by
  have := rng0_ok (n := j.toNat) (by omega)
  rwa [Int.toNat_of_nonneg h0] at this
theorem rng_ok {i j : Int} (h1 : -(2 ^ 62) ≤ i) (h2 : i < 2 ^ 62) (h3 : -(2 ^ 62) ≤ j) (h4 : j < 2 ^ 62) : rng i j = .ok (rangeI i (j - i).toNat) := by
  unfold rng; rw [rngOk_of h1 h2 h3 h4]; rfl
theorem rangeI_len (i : Int) (n : Nat) : (rangeI i n).length = n := by unfold rangeI; simp
theorem rangeI_get {a : Int} {n i : Nat} {x : Int} (h : (rangeI a n)[i]? = some x) : x = a + i ∧ i < n := by
  unfold rangeI at h
  rw [List.getElem?_map] at h
  obtain ⟨k, hk, rfl⟩ := Option.map_eq_some_iff.mp h
  have hl := (List.getElem?_eq_some_iff.mp hk).1
  rw [List.length_range] at hl
  rw [List.getElem?_range hl] at hk
  cases hk
  exact ⟨rfl, hl⟩
theorem enumI_get : ∀ {xs : List α} {c : Int} {i : Nat}, (enumI c xs)[i]? = (xs[i]?).map fun x => (c + i, x)
  | [], c, i => by simp [enumI]
  | x :: xs, c, 0 => by simp [enumI]
  | x :: xs, c, i + 1 => by
    unfold enumI
    rw [List.getElem?_cons_succ, List.getElem?_cons_succ, enumI_get]
    congr 1
    funext y
    rw [show c + 1 + (i : Int) = c + ((i + 1 : Nat) : Int) by omega]
theorem enumI_len : ∀ {xs : List α} {c : Int}, (enumI c xs).length = xs.length
  | [], _ => rfl
  | x :: xs, c => by unfold enumI; rw [List.length_cons, List.length_cons, enumI_len]
theorem enumI_mem {xs : List α} {p : Int × α} (h : p ∈ enumI 0 xs) : ∃ i : Nat, p.1 = i ∧ xs[i]? = some p.2 := by
  obtain ⟨i, hi⟩ := List.mem_iff_getElem?.mp h
  rw [enumI_get] at hi
  obtain ⟨x, hx, rfl⟩ := Option.map_eq_some_iff.mp hi
  exact ⟨i, by simp, hx⟩

/-! comprehensions -/
theorem lcM_ok {g : α → β} {xs : List α} (h : xs.length ≤ 40000) : lcM g xs = .ok (xs.map g) := by unfold lcM; rw [if_pos h]
theorem lcF_ok {c : α → Bool} {g : α → β} {xs : List α} (h : xs.length ≤ 40000) : lcF c g xs = .ok ((xs.filter c).map g) := by unfold lcF; rw [if_pos h]
theorem compP_ok {f : α → P (Option β)} (g : α → Option β) : ∀ {xs : List α}, (∀ x ∈ xs, f x = .ok (g x)) → compP f xs = .ok (xs.filterMap g)
  | [], _ => rfl
  | x :: xs, h => by
    unfold compP
    rw [h x List.mem_cons_self, P.ok_bind, compP_ok g fun y hy => h y (List.mem_cons_of_mem _ hy), P.ok_bind]
    cases e : g x with
    | none => rw [List.filterMap_cons_none e]
    | some y => rw [List.filterMap_cons_some e]
theorem lcP_map {f : α → P β} (g : α → β) {xs : List α} (hl : xs.length ≤ 40000) (h : ∀ x ∈ xs, f x = .ok (g x)) : lcP (fun x => (f x).bind fun y => .ok (some y)) xs = .ok (xs.map g) := by
  unfold lcP
  rw [if_pos hl, compP_ok (fun x => some (g x)) fun x hx => by rw [h x hx]; rfl]
  rw [List.filterMap_eq_map']
theorem compP_to {f : α → P (Option β)} (Q : α → β → Prop) : ∀ {xs : List α}, (∀ x ∈ xs, P.To (f x) fun o => ∃ y, o = some y ∧ Q x y) → P.To (compP f xs) fun ys => ys.length = xs.length ∧ ∀ (i : Nat) (x : α) (y : β), xs[i]? = some x → ys[i]? = some y → Q x y
  | [], _ => ⟨[], rfl, rfl, fun i x y h => by simp at h⟩
  | x :: xs, h => by
    obtain ⟨_, e1, y, rfl, hy⟩ := h x List.mem_cons_self
    obtain ⟨ys, e2, l, hs⟩ := compP_to Q (xs := xs) fun z hz => h z (List.mem_cons_of_mem _ hz)
    refine ⟨y :: ys, by unfold compP; rw [e1, P.okb, e2, P.okb], by rw [List.length_cons, List.length_cons, l], fun i a b ha hb => ?_⟩
    cases i with
    | zero => simp at ha hb; subst ha; subst hb; exact hy
    | succ i => simp at ha hb; exact hs i a b ha hb
theorem lcP_to {f : α → P β} (Q : α → β → Prop) {xs : List α} (hl : xs.length ≤ 40000) (h : ∀ x ∈ xs, P.To (f x) (Q x)) : P.To (lcP (fun x => (f x).bind fun y => .ok (some y)) xs) fun ys => ys.length = xs.length ∧ ∀ (i : Nat) (x : α) (y : β), xs[i]? = some x → ys[i]? = some y → Q x y := by
  unfold lcP
  rw [if_pos hl]
  exact compP_to Q fun x hx => P.To.bind (h x hx) fun y _ hy => P.To.ok ⟨y, rfl, hy⟩
theorem lcP_sel {c : α → P Bool} {f : α → P β} (c' : α → Bool) (g : α → β) {xs : List α} (hl : xs.length ≤ 40000) (hc : ∀ x ∈ xs, c x = .ok (c' x)) (h : ∀ x ∈ xs, c' x = true → f x = .ok (g x)) :
    lcP (fun x => (c x).bind fun b => if b then (f x).bind fun y => .ok (some y) else .ok none) xs = .ok ((xs.filter c').map g) := by
  unfold lcP
  rw [if_pos hl, compP_ok (fun x => if c' x then some (g x) else none) fun x hx => ?_]
  · congr 1
    induction xs with
    | nil => rfl
    | cons x xs ih =>
      have := ih (by rw [List.length_cons] at hl; omega) (fun y hy => hc y (List.mem_cons_of_mem _ hy)) fun y hy => h y (List.mem_cons_of_mem _ hy)
      cases e : c' x with
      | false => rw [List.filterMap_cons_none (by simp [e]), List.filter_cons_of_neg (by simp [e]), this]
      | true => rw [List.filterMap_cons_some (b := g x) (by simp [e]), List.filter_cons_of_pos (by simp [e]), List.map_cons, this]
  · rw [hc x hx, P.ok_bind]
    cases e : c' x with
    | false => rfl
    | true => simp only [if_true]; rw [h x hx e]; rfl

/-! loops -/
theorem foldP_go {f : σ → α → P σ} (J : Nat → σ → Prop) : ∀ {xs : List α} {s : σ} (k : Nat), J k s → (∀ i x s, xs[i]? = some x → J (k + i) s → P.To (f s x) (J (k + i + 1))) → P.To (foldP f xs s) (J (k + xs.length))
  | [], s, k, h, _ => ⟨s, rfl, h⟩
  | x :: xs, s, k, h, hs => by
    obtain ⟨s1, e1, h1⟩ := hs 0 x s rfl h
    obtain ⟨s2, e2, h2⟩ := foldP_go J (xs := xs) (s := s1) (k + 1) h1 fun i y s hi hj => by
      have := hs (i + 1) y s (by simpa using hi) (by rw [show k + (i + 1) = k + 1 + i by omega]; exact hj)
      rwa [show k + (i + 1) + 1 = k + 1 + i + 1 by omega] at this
    exact ⟨s2, by unfold foldP; rw [e1]; exact e2, by rw [List.length_cons, show k + (xs.length + 1) = k + 1 + xs.length by omega]; exact h2⟩
theorem foldP_inv {f : σ → α → P σ} (J : Nat → σ → Prop) {xs : List α} {s : σ} (h : J 0 s) (hs : ∀ i x s, xs[i]? = some x → J i s → P.To (f s x) (J (i + 1))) : P.To (foldP f xs s) (J xs.length) := by
  have := foldP_go J (xs := xs) (s := s) 0 h fun i x s hi hj => by
    rw [Nat.zero_add] at hj ⊢
    exact hs i x s hi hj
  rwa [Nat.zero_add] at this
theorem foldP_ok {f : σ → α → P σ} (g : σ → α → σ) : ∀ {xs : List α} {s : σ}, (∀ x ∈ xs, ∀ s, f s x = .ok (g s x)) → foldP f xs s = .ok (xs.foldl g s)
  | [], s, _ => rfl
  | x :: xs, s, h => by
    unfold foldP
    rw [h x List.mem_cons_self, P.ok_bind, foldP_ok g fun y hy => h y (List.mem_cons_of_mem _ hy)]
    rfl
theorem whileP_inv {c : σ → P Bool} {f : σ → P σ} (J : Nat → σ → Prop) (F : σ → Prop) (hs : ∀ n s, J n s → (c s = .ok false ∧ F s) ∨ (c s = .ok true ∧ ∃ m, m < n ∧ P.To (f s) (J m))) :
    ∀ (N n : Nat) (s : σ), J n s → n < N → P.To (whileP c f N s) F
  | 0, n, s, _, h => absurd h (Nat.not_lt_zero _)
  | N + 1, n, s, hj, h => by
    unfold whileP
    rcases hs n s hj with ⟨e, h2⟩ | ⟨e, m, hm, s', e2, h2⟩
    · rw [e]; exact ⟨s, rfl, h2⟩
    · rw [e]
      obtain ⟨s2, e3, h3⟩ := whileP_inv J F hs N m s' h2 (by omega)
      exact ⟨s2, by show (f s).bind _ = _; rw [e2]; exact e3, h3⟩
end
end Y

/-! M5a: numbers as sets of places: and, or, not, the lowest place. -/
namespace Bt
open PySem L2 Z
theorem and_n (a b : Nat) : Builtin.bitAnd (a : Int) (b : Int) = ((a &&& b : Nat) : Int) := by
  unfold Builtin.bitAnd
  rw [decide_eq_true (by omega : (0 : Int) ≤ (a : Int)), decide_eq_true (by omega : (0 : Int) ≤ (b : Int))]
  rfl
theorem or_n (a b : Nat) : Builtin.bitOr (a : Int) (b : Int) = ((a ||| b : Nat) : Int) := by
  rw [bitOr_nn (by omega) (by omega)]
  rfl
/-- what stands in both, and what in one -/
theorem and_add_diff : ∀ (n a b : Nat), a < 2 ^ n → ∃ c, c + (a &&& b) = a ∧ ∀ i, c.testBit i = (a.testBit i && !b.testBit i)
  | 0, a, b, h => by
    have : a = 0 := by simpa using h
    subst this
    exact ⟨0, by simp, fun i => by simp⟩
  | n + 1, a, b, h => by
    obtain ⟨c, h1, h2⟩ := and_add_diff n (a / 2) (b / 2) (by rw [Nat.pow_succ] at h; omega)
    have e : (a &&& b) / 2 = a / 2 &&& b / 2 := by
      apply Nat.eq_of_testBit_eq
      intro i
      simp only [Nat.testBit_and, Nat.testBit_div_two]
    have e0 : (a &&& b) % 2 = if a % 2 = 1 ∧ b % 2 = 1 then 1 else 0 := by
      have q : (a &&& b).testBit 0 = (a.testBit 0 && b.testBit 0) := Nat.testBit_and ..
      simp only [Nat.testBit_zero] at q
      rcases Nat.mod_two_eq_zero_or_one (a &&& b) with x | x <;> rcases Nat.mod_two_eq_zero_or_one a with y | y <;> rcases Nat.mod_two_eq_zero_or_one b with z | z <;> simp [x, y, z] at q ⊢
    refine ⟨2 * c + (if a % 2 = 1 ∧ ¬ b % 2 = 1 then 1 else 0), ?_, fun i => ?_⟩
    · have ea := Nat.div_add_mod a 2
      have eb := Nat.div_add_mod (a &&& b) 2
      rw [e, e0] at eb
      have := Nat.mod_two_eq_zero_or_one a
      have := Nat.mod_two_eq_zero_or_one b
      split <;> rename_i x <;> split at eb <;> rename_i y <;> omega
    · cases i with
      | zero =>
        simp only [Nat.testBit_zero]
        have := Nat.mod_two_eq_zero_or_one a
        have := Nat.mod_two_eq_zero_or_one b
        rcases Nat.mod_two_eq_zero_or_one a with y | y <;> rcases Nat.mod_two_eq_zero_or_one b with z | z <;> simp [y, z] <;> omega
      | succ i =>
        rw [Nat.testBit_succ, Nat.testBit_succ, Nat.testBit_succ, ← h2]
        congr 1
        split <;> omega
/-- a without what b has -/
theorem and_not (a b : Nat) : ∃ c : Nat, Builtin.bitAnd (a : Int) (Builtin.bitNot (b : Int)) = (c : Int) ∧ ∀ i, c.testBit i = (a.testBit i && !b.testBit i) := by
  obtain ⟨c, h1, h2⟩ := and_add_diff a a b Nat.lt_two_pow_self
  refine ⟨c, ?_, h2⟩
  have hb : Builtin.bitNot (b : Int) = -(b : Int) - 1 := rfl
  unfold Builtin.bitAnd
  rw [decide_eq_true (by omega : (0 : Int) ≤ (a : Int)), decide_eq_false (by omega : ¬ (0 : Int) ≤ Builtin.bitNot (b : Int))]
  have e2 : Builtin.bitNot (Builtin.bitNot (b : Int)) = (b : Int) := by show -(-(b : Int) - 1) - 1 = _; omega
  show (a : Int) - (((a : Int).toNat &&& (Builtin.bitNot (Builtin.bitNot (b : Int))).toNat : Nat) : Int) = _
  rw [e2]
  show (a : Int) - ((a &&& b : Nat) : Int) = _
  omega
/-- the lowest place of m -/
theorem low_ex : ∀ (n m : Nat), m < 2 ^ n → 0 < m → ∃ k q, m = 2 ^ k * (2 * q + 1)
  | 0, m, h, h0 => by simp at h; omega
  | n + 1, m, h, h0 => by
    rcases Nat.mod_two_eq_zero_or_one m with e | e
    · obtain ⟨k, q, hq⟩ := low_ex n (m / 2) (by rw [Nat.pow_succ] at h; omega) (by omega)
      refine ⟨k + 1, q, ?_⟩
      have : m = 2 * (m / 2) := by omega
      rw [this, hq, Nat.pow_succ, Nat.mul_comm (2 ^ k) 2, Nat.mul_assoc]
    · exact ⟨0, m / 2, by rw [Nat.pow_zero]; omega⟩
theorem low_bits (k q i : Nat) : (2 ^ k * (2 * q + 1)).testBit i = if i < k then false else if i = k then true else (2 * q + 1).testBit (i - k) := by
  rw [Nat.testBit_two_pow_mul]
  by_cases h : i < k
  · rw [if_pos h]; simp; omega
  · rw [if_neg h]
    by_cases e : i = k
    · subst e; simp
    · rw [if_neg e]; simp; omega
theorem low_and (k q : Nat) : Builtin.bitAnd ((2 ^ k * (2 * q + 1) : Nat) : Int) (-((2 ^ k * (2 * q + 1) : Nat) : Int)) = ((2 ^ k : Nat) : Int) := by
  have hm : 0 < 2 ^ k * (2 * q + 1) := Nat.mul_pos (Nat.two_pow_pos k) (by omega)
  generalize em : 2 ^ k * (2 * q + 1) = m at hm ⊢
  have e1 : m &&& (m - 1) = 2 ^ (k + 1) * q := by
    apply Nat.eq_of_testBit_eq
    intro i
    have h1 : m - 1 = 2 ^ k * (2 * q) + (2 ^ k - 1) := by
      have := Nat.two_pow_pos k
      rw [← em, Nat.mul_add]
      omega
    have h2 : 2 ^ (k + 1) * q = 2 ^ k * (2 * q) := by rw [Nat.pow_succ, Nat.mul_assoc]
    rw [Nat.testBit_and, h1, h2, ← em, Nat.testBit_two_pow_mul_add _ (by have := Nat.two_pow_pos k; omega), Nat.testBit_two_pow_mul, Nat.testBit_two_pow_mul]
    by_cases h : i < k
    · have h' : ¬ k ≤ i := by omega
      simp [h, h']
    · have h' : k ≤ i := by omega
      simp only [h, h', ge_iff_le, decide_true, Bool.true_and, if_false]
      obtain ⟨j, rfl⟩ : ∃ j, i = k + j := ⟨i - k, by omega⟩
      rw [Nat.add_sub_cancel_left]
      cases j with
      | zero => simp
      | succ j => rw [Nat.testBit_succ, Nat.testBit_succ, show (2 * q + 1) / 2 = q by omega, show 2 * q / 2 = q by omega, Bool.and_self]
  unfold Builtin.bitAnd
  rw [decide_eq_true (by omega : (0 : Int) ≤ (m : Int)), decide_eq_false (by omega : ¬ (0 : Int) ≤ -(m : Int))]
  have e2 : (Builtin.bitNot (-(m : Int))).toNat = m - 1 := by
    have : Builtin.bitNot (-(m : Int)) = -(-(m : Int)) - 1 := rfl
    rw [this]; omega
  show (m : Int) - (((m : Int).toNat &&& (Builtin.bitNot (-(m : Int))).toNat : Nat) : Int) = _
  rw [e2, show ((m : Int).toNat) = m from rfl, e1]
  have h3 : 2 ^ (k + 1) * q = 2 ^ k * (2 * q) := by rw [Nat.pow_succ, Nat.mul_assoc]
  have h4 : m = 2 ^ k * (2 * q) + 2 ^ k := by rw [← em, Nat.mul_add, Nat.mul_one]
  omega
theorem low_xor (k q : Nat) : Builtin.bitXor ((2 ^ k * (2 * q + 1) : Nat) : Int) ((2 ^ k : Nat) : Int) = ((2 ^ (k + 1) * q : Nat) : Int) := by
  have h3 : 2 ^ (k + 1) * q = 2 ^ k * (2 * q) := by rw [Nat.pow_succ, Nat.mul_assoc]
  have h4 : 2 ^ k * (2 * q + 1) = 2 ^ k * (2 * q) + 2 ^ k := by rw [Nat.mul_add, Nat.mul_one]
  have ea : 2 ^ k * (2 * q + 1) &&& 2 ^ k = 2 ^ k := by
    apply Nat.eq_of_testBit_eq
    intro i
    rw [Nat.testBit_and, low_bits, Nat.testBit_two_pow]
    by_cases h : i < k
    · simp [h]; omega
    · by_cases e : i = k
      · subst e; simp
      · have : ¬ k = i := fun z => e z.symm
        simp [h, e, this]
  rw [PyProof.Rows.bitXor_and, and_n, ea]
  omega
theorem low_bitlen (k : Nat) : (Builtin.Int.intBits ((2 ^ k : Nat) : Int) : Nat) = k + 1 := by
  have h1 : Builtin.Int.intBits ((2 ^ k : Nat) : Int) ≤ k + 1 := intBits_le_iff.mpr (by
    rw [Int.natAbs_natCast, Nat.pow_succ]; have := Nat.two_pow_pos k; omega)
  have h2 : ¬ Builtin.Int.intBits ((2 ^ k : Nat) : Int) ≤ k := fun h => by
    have := intBits_le_iff.mp h
    rw [Int.natAbs_natCast] at this
    omega
  omega
end Bt

/-! FrSpec1: what the laws' own helpers give: cells, digits, webs, pictures, scenes, neighbours. -/
namespace Fr
open Y
/-- a list of such numbers: no name of a walk -/
theorem fold_ok {α σ : Type} {f : σ → α → P σ} {xs : List α} {s : σ} (J : σ → Prop) (h : J s) (hs : ∀ x ∈ xs, ∀ s, J s → P.To (f s x) J) : P.To (foldP f xs s) J :=
  foldP_inv (fun _ => J) h fun i x s hi hj => hs x (List.mem_of_getElem? hi) s hj
theorem law_cell_ok (ns : List Int) {k : Int} (h0 : 0 ≤ k) (h1 : k < 100) : ∃ c, f_law_cell ns k = .ok c := by
  unfold f_law_cell
  simp only [P.okb]
  by_cases h : k < (ns.length : Int)
  · rw [if_pos (decide_eq_true h), getI_lt h0 h]
    exact ⟨_, rfl⟩
  · rw [if_neg (by simpa using h)]
    rw [foldP_ok (fun s c => (s * 31 + c % 1000003) % 1000003) fun x _ s => rfl]
    rw [P.ok_bind, mulI_ok (.inr (small_of (by omega) (by omega)))]
    exact ⟨_, rfl⟩
/-- a size that a digit may have -/
def szB (s : Int) : Bool := decide (0 < s) && (decide (s < 1073741824) || decide (s.natAbs.log2 < 9000))
structure Digs (ss row : List Int) : Prop where
  len : row.length = ss.length
  dig : ∀ (i : Nat) (s r : Int), ss[i]? = some s → row[i]? = some r → 0 ≤ r ∧ r < s
theorem Digs.nil : Digs [] [] := ⟨rfl, fun i s r h => by simp at h⟩
theorem Digs.snoc {ss row : List Int} {s r : Int} (d : Digs ss row) (h0 : 0 ≤ r) (h1 : r < s) : Digs (ss ++ [s]) (row ++ [r]) := by
  refine ⟨by simp [d.len], fun i s' r' e1 e2 => ?_⟩
  rw [List.getElem?_append] at e1 e2
  by_cases h : i < ss.length
  · rw [if_pos h] at e1
    rw [if_pos (by rw [d.len]; exact h)] at e2
    exact d.dig i s' r' e1 e2
  · rw [if_neg h] at e1
    rw [if_neg (by rw [d.len]; exact h), d.len] at e2
    cases hi : i - ss.length with
    | zero => rw [hi] at e1 e2; cases e1; cases e2; exact ⟨h0, h1⟩
    | succ j => rw [hi] at e1; simp at e1
theorem Digs.at {ss row : List Int} (d : Digs ss row) {i : Int} (h0 : 0 ≤ i) {s : Int} (hs : ss[i.toNat]? = some s) : getI row i = .ok (row.getD i.toNat 0) ∧ 0 ≤ row.getD i.toNat 0 ∧ row.getD i.toNat 0 < s := by
  have hl := (List.getElem?_eq_some_iff.mp hs).1
  have hr : i.toNat < row.length := by rw [d.len]; exact hl
  have := d.dig i.toNat s row[i.toNat] hs (List.getElem?_eq_getElem hr)
  refine ⟨getI_D 0 h0 (by omega), ?_⟩
  rw [List.getD_eq_getElem?_getD, List.getElem?_eq_getElem hr]
  exact this
theorem take_snoc {α : Type} {xs : List α} {i : Nat} {x : α} (h : xs[i]? = some x) : xs.take (i + 1) = xs.take i ++ [x] := by
  rw [List.take_succ, h]; rfl
theorem law_digits_ok (c : Int) {ss : List Int} (hs : ss.all szB = true) (hl : ss.length ≤ 1000) : P.To (f_law_digits c ss) (Digs ss) := by
  have sz : ∀ {i : Nat} {s : Int}, ss[i]? = some s → 0 < s := fun {i s} h => by
    have h1 := List.all_eq_true.mp hs s (List.mem_of_getElem? h)
    unfold szB at h1
    rw [Bool.and_eq_true] at h1
    exact of_decide_eq_true h1.1
  have dv : ∀ {i : Nat} {s x : Int}, ss[i]? = some s → divI x s = .ok (x / s) := fun {i s x} h => by
    have h1 := List.all_eq_true.mp hs s (List.mem_of_getElem? h)
    unfold szB at h1
    unfold divI
    rw [if_pos h1]
  unfold f_law_digits
  simp only [P.okb]
  generalize (10 : Int) ^ 18 = T
  generalize c % 2147483629 = sd0
  split
  · refine P.To.bind (foldP_inv (fun i (s : List Int × Int) => Digs (ss.take i) s.1) Digs.nil fun i x s hi hj => ?_) fun s _ hj => ?_
    · have h0 := sz hi
      rw [modI_ok h0, P.ok_bind, push_ok (by rw [hj.len, List.length_take]; omega), P.ok_bind, dv hi, P.ok_bind]
      refine P.To.ok ?_
      rw [take_snoc hi]
      exact hj.snoc (Int.emod_nonneg _ (by omega)) (Int.emod_lt_of_pos _ h0)
    · refine P.To.ok ?_
      rw [List.take_length] at hj
      exact hj
  · rw [rng0_ok (by omega), P.ok_bind]
    refine P.To.bind (foldP_inv (fun i (s : List Int × Int) => Digs (ss.take i) s.1) Digs.nil fun i x s hi hj => ?_) fun s _ hj => ?_
    · obtain ⟨rfl, hi2⟩ := upto_get hi
      obtain ⟨z, hz⟩ : ∃ z, ss[i]? = some z := ⟨_, List.getElem?_eq_getElem hi2⟩
      have h0 := sz hz
      have hr : ∀ w : Int, 0 ≤ w % 2147483647 ∧ w % 2147483647 < 2147483647 := fun w => by omega
      have := hr (s.2 * 48271 + 974711 * (i : Int) + 12345)
      generalize (s.2 * 48271 + 974711 * (i : Int) + 12345) % 2147483647 = sd at this ⊢
      rw [mulI_ok (.inl (small_of (by omega) (by omega))), P.ok_bind, getI_nat hz, P.ok_bind, modI_ok h0, P.ok_bind, push_ok (by rw [hj.len, List.length_take]; omega), P.ok_bind]
      generalize sd * (sd / 65537 + 3) % 2147483629 / 19 = tw
      refine P.To.ok ?_
      rw [take_snoc hz]
      exact hj.snoc (Int.emod_nonneg _ (by omega)) (Int.emod_lt_of_pos _ h0)
    · refine P.To.ok ?_
      rw [upto_len, List.take_length] at hj
      exact hj
/-- lines of a web of n places -/
structure Lines (n : Nat) (ls : List (Int × Int)) : Prop where
  ok : ∀ p ∈ ls, 0 ≤ p.1 ∧ p.1 < p.2 ∧ p.2 < n
  ord : ls.Pairwise fun p q => plt p q = true
/-- pictures -/
structure Pic (n : Nat) (pic : List Int) : Prop where
  len : pic.length = n
  st : ∀ s ∈ pic, s = 0 ∨ s = 1 ∨ s = 2
theorem Pic.at {n : Nat} {pic : List Int} (p : Pic n pic) {i : Nat} (h : i < n) : getI pic (i : Int) = .ok (pic.getD i 0) ∧ (pic.getD i 0 = 0 ∨ pic.getD i 0 = 1 ∨ pic.getD i 0 = 2) := by
  have hl : i < pic.length := by rw [p.len]; exact h
  rw [List.getD_eq_getElem?_getD, List.getElem?_eq_getElem hl]
  exact ⟨getI_nat (List.getElem?_eq_getElem hl), p.st _ (List.getElem_mem hl)⟩
def webSs : List Int := [12, 20, 6, 20, 6, 20, 6, 20, 6, 20, 6, 20, 6, 8, 8, 8, 8, 8, 8, 8]
def picSs : List Int := [10, 3, 3, 3, 3, 3, 3, 3, 3]
theorem law_web_ok {row : List Int} (d : Digs webSs row) {most : Int} (h1 : 1 ≤ most) (h7 : most ≤ 7) : P.To (f_law_web row most) fun w => ∃ n : Nat, w.1 = n ∧ 1 ≤ n ∧ n ≤ most ∧ Lines n w.2 ∧ w.2.length ≤ 49 := by
  unfold f_law_web
  simp only [P.okb]
  obtain ⟨e0, a0, b0⟩ := d.at (i := 0) (by omega) (s := 12) rfl
  rw [e0, P.ok_bind]
  generalize row.getD (0 : Int).toNat 0 = r0 at a0 b0 ⊢
  have hsz : P.To (getI [(5 : Int), 4, 6, 3, 5, 7, 4, 6, 2, 5, 1, 6] r0) fun x => 1 ≤ x ∧ x ≤ 7 := by
    have : r0 = 0 ∨ r0 = 1 ∨ r0 = 2 ∨ r0 = 3 ∨ r0 = 4 ∨ r0 = 5 ∨ r0 = 6 ∨ r0 = 7 ∨ r0 = 8 ∨ r0 = 9 ∨ r0 = 10 ∨ r0 = 11 := by omega
    rcases this with rfl | rfl | rfl | rfl | rfl | rfl | rfl | rfl | rfl | rfl | rfl | rfl <;> exact ⟨_, rfl, by omega, by omega⟩
  refine P.To.bind hsz fun x1 _ hx1 => ?_
  obtain ⟨n, hn⟩ : ∃ n : Nat, min2 most x1 = n := ⟨(min2 most x1).toNat, by unfold min2; split <;> omega⟩
  have hn' : 1 ≤ n ∧ (n : Int) ≤ most := by
    rw [← Int.ofNat_le, ← hn]
    unfold min2
    split <;> omega
  rw [hn, rng_ok (by omega) (by omega) (by omega) (by omega), P.ok_bind]
  refine P.To.bind (foldP_inv (fun i (s : List (Int × Int)) => s.length ≤ i) (Nat.le_refl _) fun i k s hi hj => ?_) fun kn1 _ hk1 => ?_
  · obtain ⟨rfl, hi2⟩ := rangeI_get hi
    have i7 : i < 6 := by omega
    have i0 : (i = 0 ∨ i = 1 ∨ i = 2 ∨ i = 3 ∨ i = 4 ∨ i = 5) := by omega
    obtain ⟨e1, a1, b1⟩ := d.at (i := 2 * (1 + (i : Int))) (by omega) (s := 6) (by rcases i0 with rfl | rfl | rfl | rfl | rfl | rfl <;> rfl)
    obtain ⟨e2, a2, b2⟩ := d.at (i := 13) (by omega) (s := 8) rfl
    obtain ⟨e3, a3, b3⟩ := d.at (i := 2 * (1 + (i : Int)) - 1) (by omega) (s := 20) (by rcases i0 with rfl | rfl | rfl | rfl | rfl | rfl <;> rfl)
    rw [e1, P.ok_bind]
    obtain ⟨v5, e5⟩ := getI_ex (xs := [1 + (i : Int) - 1, 1 + (i : Int) - 1, 1 + (i : Int) - 1, 0, (1 + (i : Int)) / 2, 0]) a1 (by simpa using b1)
    rw [e5, P.ok_bind, e2, P.ok_bind]
    refine P.To.bind (p := fun _ => True) ?_ fun mate _ _ => ?_
    · split <;> exact ⟨_, rfl, trivial⟩
    · rw [e3, P.ok_bind]
      refine P.To.bind (p := fun t : List (Int × Int) => t.length ≤ i + 1) ?_ fun t _ ht => P.To.ok ht
      split
      · rw [push_ok (by omega), P.ok_bind]
        exact P.To.ok (by rw [List.length_append]; simp; omega)
      · exact P.To.ok (by omega)
  · rw [rangeI_len] at hk1
    obtain ⟨e2, a2, b2⟩ := d.at (i := 13) (by omega) (s := 8) rfl
    refine P.To.bind (p := fun _ => True) ?_ fun t _ _ => ?_
    · split
      · rw [e2]; exact ⟨_, rfl, trivial⟩
      · exact ⟨_, rfl, trivial⟩
    refine P.To.bind (p := fun t : List (Int × Int) => t.length ≤ 7) ?_ fun kn2 _ hk2 => ?_
    · split
      · rw [push_ok (by omega), P.ok_bind]
        exact P.To.ok (by rw [List.length_append]; simp; omega)
      · exact P.To.ok (by omega)
    · rw [show rng0 3 = .ok (upto 3) from rng0_ok (n := 3) (by omega), P.ok_bind]
      refine P.To.bind (foldP_inv (fun i (s : List (Int × Int)) => s.length ≤ 7 + i) (by omega) fun i k s hi hj => ?_) fun kn3 _ hk3 => ?_
      · obtain ⟨rfl, hi2⟩ := upto_get hi
        have i0 : (i = 0 ∨ i = 1 ∨ i = 2) := by omega
        obtain ⟨e4, a4, b4⟩ := d.at (i := 14 + 2 * (i : Int)) (by omega) (s := 8) (by rcases i0 with rfl | rfl | rfl <;> rfl)
        obtain ⟨e5, a5, b5⟩ := d.at (i := 15 + 2 * (i : Int)) (by omega) (s := 8) (by rcases i0 with rfl | rfl | rfl <;> rfl)
        rw [e4, P.ok_bind, modI_ok (by omega), P.ok_bind, e5, P.ok_bind, modI_ok (by omega), P.ok_bind]
        refine P.To.bind (p := fun _ => True) ?_ fun t _ _ => ?_
        · split <;> exact ⟨_, rfl, trivial⟩
        refine P.To.bind (p := fun t : List (Int × Int) => t.length ≤ 7 + (i + 1)) ?_ fun t _ ht => P.To.ok ht
        split
        · rw [push_ok (by omega), P.ok_bind]
          exact P.To.ok (by rw [List.length_append]; simp; omega)
        · exact P.To.ok (by omega)
      · rw [rng0_ok (by omega), P.ok_bind]
        refine P.To.bind (foldP_inv (fun i (s : List (Int × Int)) => (∀ p ∈ s, 0 ≤ p.1 ∧ p.1 < i ∧ p.1 < p.2 ∧ p.2 < n) ∧ s.Pairwise (fun p q => plt p q = true) ∧ s.length ≤ i * 7) ⟨fun p hp => (nomatch hp), List.Pairwise.nil, by simp⟩ fun i a s hi hj => ?_) fun ls _ hls => ?_
        · obtain ⟨rfl, hi2⟩ := upto_get hi
          rw [rng_ok (by omega) (by omega) (by omega) (by omega), P.ok_bind]
          obtain ⟨j1, j2, j3⟩ := hj
          refine P.To.bind (foldP_inv (fun j (t : List (Int × Int)) => (∀ p ∈ t, 0 ≤ p.1 ∧ p.1 < ((i + 1 : Nat) : Int) ∧ p.1 < p.2 ∧ p.2 < n ∧ (p.1 = i → p.2 < i + 1 + j)) ∧ t.Pairwise (fun p q => plt p q = true) ∧ t.length ≤ i * 7 + j) ⟨fun p hp => ?_, j2, by omega⟩ fun j b t hj' hjj => ?_) fun t _ ht => P.To.ok ⟨fun p hp => ?_, ht.2.1, ?_⟩
          · obtain ⟨z1, z2, z3, z4⟩ := j1 p hp
            exact ⟨z1, by omega, z3, z4, by omega⟩
          · obtain ⟨rfl, hj2⟩ := rangeI_get hj'
            obtain ⟨q1, q2, q3⟩ := hjj
            refine P.To.bind (p := fun t : List (Int × Int) => (∀ p ∈ t, 0 ≤ p.1 ∧ p.1 < ((i + 1 : Nat) : Int) ∧ p.1 < p.2 ∧ p.2 < n ∧ (p.1 = i → p.2 < i + 1 + ((j + 1 : Nat) : Int))) ∧ t.Pairwise (fun p q => plt p q = true) ∧ t.length ≤ i * 7 + (j + 1)) ?_ fun t _ ht => P.To.ok ht
            split
            · rw [push_ok (by omega), P.ok_bind]
              refine P.To.ok (q := fun t : List (Int × Int) => (∀ p ∈ t, 0 ≤ p.1 ∧ p.1 < ((i + 1 : Nat) : Int) ∧ p.1 < p.2 ∧ p.2 < n ∧ (p.1 = i → p.2 < i + 1 + ((j + 1 : Nat) : Int))) ∧ t.Pairwise (fun p q => plt p q = true) ∧ t.length ≤ i * 7 + (j + 1)) ⟨fun p hp => ?_, List.pairwise_append.mpr ⟨q2, List.pairwise_singleton _ _, fun p hp q hq => ?_⟩, ?_⟩
              · rcases List.mem_append.mp hp with hp | hp
                · obtain ⟨z1, z2, z3, z4, z5⟩ := q1 p hp
                  exact ⟨z1, z2, z3, z4, fun e => by have := z5 e; omega⟩
                · rw [List.mem_singleton.mp hp]
                  refine ⟨?_, ?_, ?_, ?_, fun _ => ?_⟩ <;> dsimp only <;> omega
              · rw [List.mem_singleton.mp hq]
                obtain ⟨z1, z2, z3, z4, z5⟩ := q1 p hp
                unfold plt
                by_cases e : p.1 = (i : Int)
                · have := z5 e
                  rw [Bool.or_eq_true, Bool.and_eq_true]
                  exact .inr ⟨decide_eq_true e, decide_eq_true (by show p.2 < (i : Int) + 1 + (j : Int); omega)⟩
                · rw [Bool.or_eq_true]
                  exact .inl (decide_eq_true (by show p.1 < (i : Int); omega))
              · rw [List.length_append, List.length_singleton]; omega
            · exact P.To.ok ⟨fun p hp => let ⟨z1, z2, z3, z4, z5⟩ := q1 p hp; ⟨z1, z2, z3, z4, fun e => by have := z5 e; omega⟩, q2, by omega⟩
          · obtain ⟨z1, z2, z3, z4, z5⟩ := ht.1 p hp
            exact ⟨z1, by omega, z3, z4⟩
          · have := ht.2.2
            rw [rangeI_len] at this
            omega
        · rw [upto_len] at hls
          refine P.To.ok ⟨n, rfl, hn'.1, hn'.2, ⟨fun p hp => ?_, hls.2.1⟩, ?_⟩
          · obtain ⟨z1, z2, z3, z4⟩ := hls.1 p hp
            exact ⟨z1, z3, z4⟩
          · have := hls.2.2
            show ls.length ≤ 49
            have : n ≤ 7 := by omega
            omega
theorem law_picture_ok {row : List Int} (d : Digs picSs row) {n : Nat} (hn : n ≤ 7) : P.To (f_law_picture row n) (Pic n) := by
  unfold f_law_picture
  obtain ⟨e0, a0, b0⟩ := d.at (i := 0) (by omega) (s := 10) rfl
  obtain ⟨e1, a1, b1⟩ := d.at (i := 1) (by omega) (s := 3) rfl
  obtain ⟨e2, a2, b2⟩ := d.at (i := 2) (by omega) (s := 3) rfl
  have fin : ∀ (g : Int → Int), (∀ k : Int, 0 ≤ k → k < n → g k = 0 ∨ g k = 1 ∨ g k = 2) → Pic n ((upto n).map g) := fun g h => ⟨by rw [List.length_map, upto_len], fun s hs => by
    obtain ⟨k, hk, rfl⟩ := List.mem_map.mp hs
    obtain ⟨h0, h1⟩ := upto_mem.mp hk
    exact h k h0 h1⟩
  rw [e0]
  simp only [P.okb]
  refine P.To.bind (p := fun _ => True) ?_ fun t _ _ => ?_
  · split <;> exact ⟨_, rfl, trivial⟩
  have il : (upto n).length ≤ 40000 := by rw [upto_len]; omega
  cases t with
  | true =>
    rw [if_pos rfl, rng0_ok (by omega), P.ok_bind]
    rw [lcP_map (fun k => (k + row.getD (1 : Int).toNat 0) % 3) il fun x _ => by rw [e1]; rfl]
    exact P.To.ok (fin _ fun k _ _ => by omega)
  | false =>
    rw [if_neg (by decide)]
    split
    · rw [rng0_ok (by omega), P.ok_bind]
      rw [lcP_map (fun k => (k + row.getD (1 : Int).toNat 0) % 3 * b2i (!decide (k = row.getD (2 : Int).toNat 0 + 1))) il fun x _ => by rw [e1, P.ok_bind, e2]; rfl]
      refine P.To.ok (fin _ fun k _ _ => ?_)
      cases decide (k = row.getD (2 : Int).toNat 0 + 1) <;> simp [b2i] <;> omega
    · split
      · rw [rng0_ok (by omega), P.ok_bind]
        rw [lcP_map (fun k => b2i (decide (k = row.getD (1 : Int).toNat 0))) il fun x _ => by rw [e1]; rfl]
        refine P.To.ok (fin _ fun k _ _ => ?_)
        cases decide (k = row.getD (1 : Int).toNat 0) <;> simp [b2i]
      · rw [rng0_ok (by omega), P.ok_bind]
        have g : ∀ k : Int, 0 ≤ k → k < n → getI row (2 + k) = .ok (row.getD (2 + k).toNat 0) ∧ 0 ≤ row.getD (2 + k).toNat 0 ∧ row.getD (2 + k).toNat 0 < 3 := fun k h0 h1 => d.at (by omega) (s := 3) (by
          have : k = 0 ∨ k = 1 ∨ k = 2 ∨ k = 3 ∨ k = 4 ∨ k = 5 ∨ k = 6 := by omega
          rcases this with rfl | rfl | rfl | rfl | rfl | rfl | rfl <;> rfl)
        rw [lcP_map (fun k => row.getD (2 + k).toNat 0) il fun x hx => by
          obtain ⟨h0, h1⟩ := upto_mem.mp hx
          rw [(g x h0 h1).1]; rfl]
        exact P.To.ok (fin _ fun k h0 h1 => by have := g k h0 h1; omega)
/-- what a drawn scene is -/
def SceneQ (most : Int) (w : Int × List (Int × Int) × List Int) : Prop := ∃ n : Nat, w.1 = n ∧ 1 ≤ n ∧ n ≤ most ∧ Lines n w.2.1 ∧ w.2.1.length ≤ 49 ∧ Pic n w.2.2
theorem law_scene_ok (ns : List Int) {at_ most : Int} (h0 : 0 ≤ at_) (h1 : at_ < 90) (m1 : 1 ≤ most) (m7 : most ≤ 7) : P.To (f_law_scene ns at_ most) (SceneQ most) := by
  unfold f_law_scene
  obtain ⟨c, hc⟩ := law_cell_ok ns (k := at_) h0 (by omega)
  rw [hc, P.ok_bind, show rep [(20 : Int), 6] 6 = .ok [20, 6, 20, 6, 20, 6, 20, 6, 20, 6, 20, 6] from rep_ok (n := 6) (by omega) (by decide), P.ok_bind, cat_ok (by decide), P.ok_bind, cat_ok (by decide), P.ok_bind,
    show rep [(8 : Int), 8] 3 = .ok [8, 8, 8, 8, 8, 8] from rep_ok (n := 3) (by omega) (by decide), P.ok_bind, cat_ok (by decide), P.ok_bind]
  refine P.To.bind (law_digits_ok c (ss := webSs) (by decide) (by decide)) fun row _ hd => ?_
  refine P.To.bind (law_web_ok hd m1 m7) fun w _ hw => ?_
  obtain ⟨n, e, n1, n2, hl, h49⟩ := hw
  obtain ⟨c2, hc2⟩ := law_cell_ok ns (k := at_ + 1) (by omega) (by omega)
  rw [hc2, P.ok_bind, show rep [(3 : Int)] 7 = .ok [3, 3, 3, 3, 3, 3, 3] from rep_ok (n := 7) (by omega) (by decide), P.ok_bind, cat_ok (by decide), P.ok_bind]
  refine P.To.bind (law_digits_ok c2 (ss := picSs) (by decide) (by decide)) fun row2 _ hd2 => ?_
  rw [e]
  refine P.To.bind (law_picture_ok hd2 (by omega)) fun p _ hp => ?_
  exact P.To.ok ⟨n, rfl, n1, n2, hl, h49, hp⟩
/-- neighbours -/
def Adj (ls : List (Int × Int)) (a b : Nat) : Prop := ((a : Int), (b : Int)) ∈ ls ∨ ((b : Int), (a : Int)) ∈ ls
theorem mem_insI {i x : Int} : ∀ {l : List Int}, x ∈ insI i l ↔ x = i ∨ x ∈ l
  | [] => by simp [insI]
  | j :: r => by
    unfold insI
    split
    · simp
    · rw [List.mem_cons, mem_insI, List.mem_cons]
      constructor
      · rintro (h | h | h)
        · exact .inr (.inl h)
        · exact .inl h
        · exact .inr (.inr h)
      · rintro (h | h | h)
        · exact .inr (.inl h)
        · exact .inl h
        · exact .inr (.inr h)
theorem mem_srtI {x : Int} : ∀ {l : List Int}, x ∈ srtI l ↔ x ∈ l
  | [] => Iff.rfl
  | i :: r => by unfold srtI; rw [mem_insI, mem_srtI, List.mem_cons]
theorem len_insI {i : Int} : ∀ {l : List Int}, (insI i l).length = l.length + 1
  | [] => rfl
  | j :: r => by unfold insI; split <;> simp [len_insI]
theorem len_srtI : ∀ {l : List Int}, (srtI l).length = l.length
  | [] => rfl
  | i :: r => by unfold srtI; rw [len_insI, len_srtI, List.length_cons]
/-- a table of neighbours -/
structure NOk (n : Nat) (adj : Nat → Nat → Prop) (near : List (List Int)) : Prop where
  len : near.length = n
  row : ∀ a, a < n → ∃ l, near[a]? = some l ∧ l.length ≤ 1000 ∧ ∀ x : Int, x ∈ l ↔ ∃ b : Nat, x = b ∧ adj a b
/-- lines in any order -/
structure LV (n : Nat) (ls : List (Int × Int)) : Prop where
  ok : ∀ p ∈ ls, 0 ≤ p.1 ∧ p.1 < n ∧ 0 ≤ p.2 ∧ p.2 < n ∧ p.1 ≠ p.2
theorem Lines.lv {n : Nat} {ls : List (Int × Int)} (h : Lines n ls) : LV n ls := ⟨fun p hp => by have := h.ok p hp; omega⟩
theorem law_near_ok {n : Nat} (hn : n ≤ 60) {ls : List (Int × Int)} (hl : LV n ls) (hs : ls.length ≤ 400) : P.To (f_law_near n ls) (NOk n (Adj ls)) := by
  unfold f_law_near
  rw [rng0_ok (by omega), P.ok_bind, lcM_ok (by rw [upto_len]; omega), P.ok_bind]
  refine P.To.bind (foldP_inv (fun i (s : List (List Int)) => s.length = n ∧ ∀ a, a < n → ∃ l, s[a]? = some l ∧ l.length ≤ 2 * i ∧ ∀ x : Int, x ∈ l ↔ ∃ b : Nat, x = b ∧ Adj (ls.take i) a b) ⟨by rw [List.length_map, upto_len], fun a ha => ?_⟩ fun i p s hi hj => ?_) fun s _ hs' => ?_
  · refine ⟨[], ?_, by simp, fun x => ?_⟩
    · rw [List.getElem?_map, List.getElem?_eq_getElem (by rw [upto_len]; exact ha)]; rfl
    · simp [Adj]
  · obtain ⟨j1, j2⟩ := hj
    obtain ⟨q1, q2, q3, q4, q5⟩ := hl.ok p (List.mem_of_getElem? hi)
    have il : i < ls.length := (List.getElem?_eq_some_iff.mp hi).1
    obtain ⟨a, ha⟩ : ∃ a : Nat, p.1 = a := ⟨p.1.toNat, by omega⟩
    obtain ⟨b, hb⟩ : ∃ b : Nat, p.2 = b := ⟨p.2.toNat, by omega⟩
    have hp : p = ((a : Int), (b : Int)) := Prod.ext ha hb
    subst hp
    have an : a < n := by have : ((a : Nat) : Int) < n := q2; omega
    have bn : b < n := by have : ((b : Nat) : Int) < n := q4; omega
    have hab : a ≠ b := fun e => q5 (by rw [e])
    obtain ⟨la, ea, la1, la2⟩ := j2 a an
    obtain ⟨lb, eb, lb1, lb2⟩ := j2 b bn
    show P.To ((pushAt s (a : Int) (b : Int)).bind fun n1 => (pushAt n1 (b : Int) (a : Int)).bind fun n2 => .ok n2) _
    rw [pushAt_ok (ys := la) (by omega) (by rw [Int.toNat_natCast]; exact ea) (by omega), P.ok_bind, Int.toNat_natCast,
      pushAt_ok (ys := lb) (by omega) (by rw [Int.toNat_natCast, List.getElem?_set_ne hab]; exact eb) (by omega), P.ok_bind, Int.toNat_natCast]
    refine P.To.ok ⟨by rw [List.length_set, List.length_set, j1], fun c hc => ?_⟩
    rw [take_snoc hi]
    have key : ∀ x y : Nat, Adj (ls.take i ++ [((a : Int), (b : Int))]) x y ↔ Adj (ls.take i) x y ∨ (x = a ∧ y = b) ∨ (x = b ∧ y = a) := fun x y => by
      unfold Adj
      simp only [List.mem_append, List.mem_singleton, Prod.mk.injEq, Int.ofNat_inj]
      constructor
      · rintro ((h | h) | (h | h))
        · exact .inl (.inl h)
        · exact .inr (.inl h)
        · exact .inl (.inr h)
        · exact .inr (.inr ⟨h.2, h.1⟩)
      · rintro ((h | h) | (h | h))
        · exact .inl (.inl h)
        · exact .inr (.inl h)
        · exact .inl (.inr h)
        · exact .inr (.inr ⟨h.2, h.1⟩)
    by_cases e1 : c = b
    · subst e1
      refine ⟨lb ++ [(a : Int)], by rw [List.getElem?_set_self (by rw [List.length_set, j1]; exact bn)], by rw [List.length_append]; simp; omega, fun x => ?_⟩
      rw [List.mem_append, lb2 x, List.mem_singleton]
      constructor
      · rintro (⟨z, h1, h2⟩ | h)
        · exact ⟨z, h1, (key _ _).mpr (.inl h2)⟩
        · exact ⟨a, h, (key _ _).mpr (.inr (.inr ⟨rfl, rfl⟩))⟩
      · rintro ⟨z, h1, h2⟩
        rcases (key _ _).mp h2 with h2 | h2 | h2
        · exact .inl ⟨z, h1, h2⟩
        · exact absurd h2.1 (Ne.symm hab)
        · exact .inr (by rw [h1, h2.2])
    · rw [List.getElem?_set_ne (Ne.symm e1)]
      by_cases e2 : c = a
      · subst e2
        refine ⟨la ++ [(b : Int)], by rw [List.getElem?_set_self (by rw [j1]; exact an)], by rw [List.length_append]; simp; omega, fun x => ?_⟩
        rw [List.mem_append, la2 x, List.mem_singleton]
        constructor
        · rintro (⟨z, h1, h2⟩ | h)
          · exact ⟨z, h1, (key _ _).mpr (.inl h2)⟩
          · exact ⟨b, h, (key _ _).mpr (.inr (.inl ⟨rfl, rfl⟩))⟩
        · rintro ⟨z, h1, h2⟩
          rcases (key _ _).mp h2 with h2 | h2 | h2
          · exact .inl ⟨z, h1, h2⟩
          · exact .inr (by rw [h1, h2.2])
          · exact absurd h2.1 hab
      · rw [List.getElem?_set_ne (Ne.symm e2)]
        obtain ⟨l, k1, k2, k3⟩ := j2 c hc
        refine ⟨l, k1, by omega, fun x => ?_⟩
        rw [k3 x]
        refine exists_congr fun z => and_congr Iff.rfl ?_
        rw [key]
        constructor
        · exact .inl
        · rintro (h | h | h)
          · exact h
          · exact absurd h.1 e2
          · exact absurd h.1 e1
  · obtain ⟨j1, j2⟩ := hs'
    rw [List.take_length] at j2
    rw [lcM_ok (by omega), P.ok_bind]
    refine P.To.ok ⟨by rw [List.length_map, j1], fun a ha => ?_⟩
    obtain ⟨l, k1, k2, k3⟩ := j2 a ha
    exact ⟨srtI l, by rw [List.getElem?_map, k1]; rfl, by rw [len_srtI]; omega, fun x => by rw [mem_srtI, k3 x]⟩
end Fr

/-! FrSpec2: what the program gives: sets of places as numbers, webs, scenes, one beat, one beat back. -/
namespace Fr
open Y
theorem bor_n (a b : Nat) : bor (a : Int) (b : Int) = ((a ||| b : Nat) : Int) := Bt.or_n a b
theorem band_n (a b : Nat) : band (a : Int) (b : Int) = ((a &&& b : Nat) : Int) := Bt.and_n a b
theorem pw_bit (i j : Nat) : (2 ^ i).testBit j = decide (i = j) := Nat.testBit_two_pow
theorem testBit_lt {m k t : Nat} (h : m < 2 ^ k) (ht : m.testBit t = true) : t < k := by
  by_cases e : t < k
  · exact e
  · rw [Nat.testBit_lt_two_pow (Nat.lt_of_lt_of_le h (Nat.pow_le_pow_right (by omega) (by omega)))] at ht
    cases ht
/-- the places of a mask -/
theorem places_of_ok {m k : Nat} (hm : m < 2 ^ k) (hk : k ≤ 1000) : P.To (f_places_of m) fun l => (∀ x : Int, x ∈ l ↔ ∃ i : Nat, x = i ∧ m.testBit i = true) ∧ l.Pairwise (· < ·) ∧ l.length ≤ k := by
  unfold f_places_of
  simp only [P.okb]
  refine P.To.bind (whileP_inv (fun N (s : Int × List Int) => ∃ j m' : Nat, s.1 = (m' : Int) ∧ N = k - j ∧ j ≤ k ∧ (∀ i, m'.testBit i = (decide (j ≤ i) && m.testBit i)) ∧ (∀ x : Int, x ∈ s.2 ↔ ∃ i : Nat, x = i ∧ i < j ∧ m.testBit i = true) ∧ s.2.Pairwise (· < ·) ∧ s.2.length ≤ j)
    (fun s => (∀ x : Int, x ∈ s.2 ↔ ∃ i : Nat, x = i ∧ m.testBit i = true) ∧ s.2.Pairwise (· < ·) ∧ s.2.length ≤ k) ?_ WF k (m, []) ⟨0, m, rfl, by omega, by omega, fun i => by simp, fun x => ?_, List.Pairwise.nil, Nat.le_refl _⟩ (by unfold WF; omega)) fun s _ hs => P.To.ok hs
  · rintro N s ⟨j, m', e, eN, jk, hb, hf, ho, hl⟩
    by_cases z : m' = 0
    · refine .inl ⟨?_, ?_, ho, by omega⟩
      · subst z; rw [e]; rfl
      · intro x
        rw [hf x]
        refine exists_congr fun i => and_congr Iff.rfl ⟨fun h => h.2, fun h => ⟨?_, h⟩⟩
        have := hb i
        rw [z, Nat.zero_testBit, h, Bool.and_true] at this
        have := of_decide_eq_false this.symm
        omega
    · refine .inr ⟨?_, ?_⟩
      · rw [e, show decide ((m' : Int) = 0) = false from decide_eq_false (by omega)]; rfl
      obtain ⟨t, q, rfl⟩ := Bt.low_ex m' m' Nat.lt_two_pow_self (by omega)
      have tb : (2 ^ t * (2 * q + 1)).testBit t = true := by rw [Bt.low_bits]; simp
      have h1 := hb t
      rw [tb] at h1
      have h2 : j ≤ t ∧ m.testBit t = true := by simpa using h1.symm
      have tk := testBit_lt hm h2.2
      have el : band (s.1) (-s.1) = ((2 ^ t : Nat) : Int) := by rw [e]; exact Bt.low_and t q
      have eb : blen ((2 ^ t : Nat) : Int) = (t : Int) + 1 := by
        unfold blen
        rw [Bt.low_bitlen]; omega
      have ex : bxor s.1 ((2 ^ t : Nat) : Int) = ((2 ^ (t + 1) * q : Nat) : Int) := by rw [e]; exact Bt.low_xor t q
      rw [el, eb, ex, push_ok (by omega), P.ok_bind]
      refine ⟨k - (t + 1), by omega, P.To.ok ⟨t + 1, 2 ^ (t + 1) * q, rfl, rfl, by omega, fun i => ?_, fun x => ?_, ?_, ?_⟩⟩
      · rw [Nat.testBit_two_pow_mul]
        by_cases hi : t + 1 ≤ i
        · have h3 := hb i
          rw [Bt.low_bits, if_neg (by omega), if_neg (by omega), decide_eq_true (by omega : j ≤ i), Bool.true_and] at h3
          rw [decide_eq_true hi, Bool.true_and, Bool.true_and, ← h3]
          obtain ⟨y, rfl⟩ : ∃ y, i = t + 1 + y := ⟨i - (t + 1), by omega⟩
          rw [show t + 1 + y - (t + 1) = y by omega, show t + 1 + y - t = y + 1 by omega, Nat.testBit_succ, show (2 * q + 1) / 2 = q by omega]
        · rw [decide_eq_false hi, Bool.false_and, Bool.false_and]
      · rw [List.mem_append, hf x, List.mem_singleton]
        constructor
        · rintro (⟨i, h3, h4, h5⟩ | h3)
          · exact ⟨i, h3, by omega, h5⟩
          · exact ⟨t, by omega, by omega, h2.2⟩
        · rintro ⟨i, h3, h4, h5⟩
          by_cases hi : i < j
          · exact .inl ⟨i, h3, hi, h5⟩
          · right
            have h6 := hb i
            rw [h5, Bool.and_true, decide_eq_true (by omega : j ≤ i), Bt.low_bits] at h6
            by_cases h7 : i < t
            · rw [if_pos h7] at h6; cases h6
            · omega
      · rw [List.pairwise_append]
        refine ⟨ho, List.pairwise_singleton _ _, fun a ha b hb' => ?_⟩
        rw [List.mem_singleton] at hb'
        obtain ⟨i, h3, h4, _⟩ := (hf a).mp ha
        omega
      · rw [List.length_append, List.length_singleton]; omega
  · simp
/-! ### webs -/
structure WOk (n : Nat) (adj : Nat → Nat → Prop) (w : Web) : Prop where
  size : w.size = n
  n60 : n ≤ 60
  lt : ∀ a b, adj a b → a < n ∧ b < n ∧ a ≠ b
  sym : ∀ a b, adj a b → adj b a
  lines : ∀ p, p ∈ w.lines ↔ ∃ a b : Nat, p = ((a : Int), (b : Int)) ∧ a < b ∧ adj a b
  ord : w.lines.Pairwise fun p q => plt p q = true
  mlen : w.masks.length = n
  mask : ∀ a, a < n → ∃ m : Nat, w.masks[a]? = some (m : Int) ∧ m < 2 ^ n ∧ ∀ b, m.testBit b = true ↔ adj a b
  nlen : w.near.length = n
  near : ∀ a, a < n → ∃ l, w.near[a]? = some l ∧ (∀ x : Int, x ∈ l ↔ ∃ b : Nat, x = b ∧ adj a b) ∧ l.Pairwise (· < ·)
theorem LV.nat {n : Nat} {ls : List (Int × Int)} (h : LV n ls) {p : Int × Int} (hp : p ∈ ls) : ∃ a b : Nat, p = ((a : Int), (b : Int)) ∧ a < n ∧ b < n ∧ a ≠ b := by
  have := h.ok p hp
  exact ⟨p.1.toNat, p.2.toNat, Prod.ext (by show p.1 = _; omega) (by show p.2 = _; omega), by omega, by omega, by omega⟩
theorem adj_snoc {ls : List (Int × Int)} {a b x y : Nat} : Adj (ls ++ [((a : Int), (b : Int))]) x y ↔ Adj ls x y ∨ (x = a ∧ y = b) ∨ (x = b ∧ y = a) := by
  unfold Adj
  simp only [List.mem_append, List.mem_singleton, Prod.mk.injEq, Int.ofNat_inj]
  constructor
  · rintro ((h | h) | (h | h))
    · exact .inl (.inl h)
    · exact .inr (.inl h)
    · exact .inl (.inr h)
    · exact .inr (.inr ⟨h.2, h.1⟩)
  · rintro ((h | h) | (h | h))
    · exact .inl (.inl h)
    · exact .inr (.inl h)
    · exact .inl (.inr h)
    · exact .inr (.inr ⟨h.2, h.1⟩)
theorem check_lines_ok {n : Nat} {ls : List (Int × Int)} (h : LV n ls) : f_check_lines n ls = .ok () := by
  unfold f_check_lines
  rw [foldP_ok (fun _ _ => ()) fun x hx s => ?_]
  · rfl
  · obtain ⟨i, _, hi⟩ := enumI_mem hx
    have := h.ok _ (List.mem_of_getElem? hi)
    rw [if_neg]
    rw [decide_eq_true this.1, decide_eq_true this.2.1, decide_eq_true this.2.2.1, decide_eq_true this.2.2.2.1, decide_eq_false this.2.2.2.2]
    decide
theorem near_masks_ok {n : Nat} (hn : n ≤ 60) {ls : List (Int × Int)} (hl : LV n ls) : P.To (f_near_masks n ls) fun ms => ms.length = n ∧ ∀ a, a < n → ∃ m : Nat, ms[a]? = some (m : Int) ∧ ∀ b, m.testBit b = true ↔ Adj ls a b := by
  unfold f_near_masks
  rw [rng0_ok (by omega), P.ok_bind, lcM_ok (by rw [upto_len]; omega), P.ok_bind]
  refine P.To.bind (foldP_inv (fun i (s : List Int) => s.length = n ∧ ∀ a, a < n → ∃ m : Nat, s[a]? = some (m : Int) ∧ ∀ b, m.testBit b = true ↔ Adj (ls.take i) a b) ⟨by rw [List.length_map, upto_len], fun a ha => ⟨0, ?_, fun b => ?_⟩⟩ fun i p s hi hj => ?_) fun s _ hs => ?_
  · rw [List.getElem?_map, List.getElem?_eq_getElem (by rw [upto_len]; exact ha)]; rfl
  · simp [Adj]
  · obtain ⟨j1, j2⟩ := hj
    obtain ⟨a, b, rfl, an, bn, ab⟩ := hl.nat (List.mem_of_getElem? hi)
    obtain ⟨ma, ea, ha⟩ := j2 a an
    obtain ⟨mb, eb, hb⟩ := j2 b bn
    dsimp only
    rw [getI_nat ea, P.ok_bind, shlI_one (by omega), P.ok_bind, bor_n, setI_ok (by omega) (by omega), P.ok_bind, Int.toNat_natCast,
      getI_nat (v := (mb : Int)) (by rw [List.getElem?_set_ne ab]; exact eb), P.ok_bind, shlI_one (by omega), P.ok_bind, bor_n, setI_ok (by omega) (by rw [List.length_set]; omega), P.ok_bind, Int.toNat_natCast]
    refine P.To.ok ⟨by rw [List.length_set, List.length_set, j1], fun c hc => ?_⟩
    rw [take_snoc hi]
    by_cases e1 : c = b
    · subst e1
      refine ⟨mb ||| 2 ^ a, by rw [List.getElem?_set_self (by rw [List.length_set, j1]; exact bn)], fun y => ?_⟩
      rw [Nat.testBit_or, pw_bit, Bool.or_eq_true, decide_eq_true_eq, hb, adj_snoc]
      constructor
      · rintro (h | h)
        · exact .inl h
        · exact .inr (.inr ⟨rfl, h.symm⟩)
      · rintro (h | h | h)
        · exact .inl h
        · exact absurd h.1.symm ab
        · exact .inr h.2.symm
    · rw [List.getElem?_set_ne (Ne.symm e1)]
      by_cases e2 : c = a
      · subst e2
        refine ⟨ma ||| 2 ^ b, by rw [List.getElem?_set_self (by rw [j1]; exact an)], fun y => ?_⟩
        rw [Nat.testBit_or, pw_bit, Bool.or_eq_true, decide_eq_true_eq, ha, adj_snoc]
        constructor
        · rintro (h | h)
          · exact .inl h
          · exact .inr (.inl ⟨rfl, h.symm⟩)
        · rintro (h | h | h)
          · exact .inl h
          · exact .inr h.2.symm
          · exact absurd h.1 ab
      · rw [List.getElem?_set_ne (Ne.symm e2)]
        obtain ⟨m, k1, k2⟩ := j2 c hc
        refine ⟨m, k1, fun y => ?_⟩
        rw [k2, adj_snoc]
        constructor
        · exact .inl
        · rintro (h | h | h)
          · exact h
          · exact absurd h.1 e2
          · exact absurd h.1 e1
  · rw [List.take_length] at hs
    exact P.To.ok hs
theorem mem_insP {p x : Int × Int} : ∀ {l : List (Int × Int)}, x ∈ insP p l ↔ x = p ∨ x ∈ l
  | [] => by simp [insP]
  | q :: r => by
    unfold insP
    split
    · rw [List.mem_cons]
    · split
      · rename_i h; subst h; simp
      · rw [List.mem_cons, mem_insP, List.mem_cons]
        constructor
        · rintro (h | h | h)
          · exact .inr (.inl h)
          · exact .inl h
          · exact .inr (.inr h)
        · rintro (h | h | h)
          · exact .inr (.inl h)
          · exact .inl h
          · exact .inr (.inr h)
theorem mem_srtP {x : Int × Int} : ∀ {l : List (Int × Int)}, x ∈ srtP l ↔ x ∈ l
  | [] => Iff.rfl
  | i :: r => by unfold srtP; rw [mem_insP, mem_srtP, List.mem_cons]
theorem plt_iff {p q : Int × Int} : plt p q = true ↔ p.1 < q.1 ∨ (p.1 = q.1 ∧ p.2 < q.2) := by
  unfold plt
  rw [Bool.or_eq_true, Bool.and_eq_true, decide_eq_true_eq, decide_eq_true_eq, decide_eq_true_eq]
theorem plt_trans {p q r : Int × Int} (h : plt p q = true) (k : plt q r = true) : plt p r = true := by
  rw [plt_iff] at *; omega
theorem plt_tot {p q : Int × Int} (h : ¬ plt p q = true) (k : p ≠ q) : plt q p = true := by
  rw [plt_iff] at *
  have : p.1 ≠ q.1 ∨ p.2 ≠ q.2 := by
    by_cases e : p.1 = q.1
    · by_cases e2 : p.2 = q.2
      · exact absurd (Prod.ext e e2) k
      · exact .inr e2
    · exact .inl e
  omega
theorem ord_insP {p : Int × Int} : ∀ {l : List (Int × Int)}, l.Pairwise (fun p q => plt p q = true) → (insP p l).Pairwise fun p q => plt p q = true
  | [], _ => by unfold insP; exact List.pairwise_singleton _ _
  | q :: r, h => by
    have h1 := List.pairwise_cons.mp h
    unfold insP
    split
    · rename_i e
      exact List.pairwise_cons.mpr ⟨fun x hx => by
        rcases List.mem_cons.mp hx with rfl | hx
        · exact e
        · exact plt_trans e (h1.1 x hx), h⟩
    · rename_i e
      split
      · exact h
      · rename_i e2
        exact List.pairwise_cons.mpr ⟨fun x hx => by
          rcases mem_insP.mp hx with rfl | hx
          · exact plt_tot e e2
          · exact h1.1 x hx, ord_insP h1.2⟩
theorem ord_srtP : ∀ {l : List (Int × Int)}, (srtP l).Pairwise fun p q => plt p q = true
  | [] => List.Pairwise.nil
  | p :: r => by unfold srtP; exact ord_insP ord_srtP
theorem Web_new_ok {n : Nat} (hn : n ≤ 60) {ls : List (Int × Int)} (hl : LV n ls) (h64 : ls.length < 64) : P.To (f_Web_new n ls) (WOk n (Adj ls)) := by
  unfold f_Web_new
  rw [check_lines_ok hl, P.ok_bind, lcM_ok (by omega), P.ok_bind]
  have hs : setSort (ls.map fun x => (min2 x.1 x.2, max2 x.1 x.2)) = .ok (srtP (ls.map fun x => (min2 x.1 x.2, max2 x.1 x.2))) := by
    unfold setSort
    rw [if_pos]
    rw [Bool.and_eq_true, decide_eq_true_eq, List.length_map]
    refine ⟨h64, List.all_eq_true.mpr fun p hp => ?_⟩
    obtain ⟨x, hx, rfl⟩ := List.mem_map.mp hp
    obtain ⟨a, b, rfl, _⟩ := hl.nat hx
    rw [Bool.and_eq_true, decide_eq_true_eq, decide_eq_true_eq]
    unfold min2 max2
    constructor <;> dsimp only <;> split <;> omega
  rw [hs, P.ok_bind]
  have hm : ∀ a b : Nat, (((a : Int), (b : Int)) ∈ srtP (ls.map fun x => (min2 x.1 x.2, max2 x.1 x.2))) ↔ a < b ∧ Adj ls a b := fun a b => by
    rw [mem_srtP, List.mem_map]
    constructor
    · rintro ⟨x, hx, e⟩
      obtain ⟨c, d, rfl, _, _, cd⟩ := hl.nat hx
      have e1 : min2 (c : Int) d = a := congrArg Prod.fst e
      have e2 : max2 (c : Int) d = b := congrArg Prod.snd e
      unfold min2 at e1
      unfold max2 at e2
      by_cases h : c < d
      · rw [if_neg (by omega)] at e1
        rw [if_pos (by omega)] at e2
        rw [← Int.ofNat_inj.mp e1, ← Int.ofNat_inj.mp e2]
        exact ⟨h, .inl hx⟩
      · rw [if_pos (by omega)] at e1
        rw [if_neg (by omega)] at e2
        rw [← Int.ofNat_inj.mp e1, ← Int.ofNat_inj.mp e2]
        exact ⟨by omega, .inr hx⟩
    · rintro ⟨h, hx | hx⟩
      · refine ⟨_, hx, ?_⟩
        show (min2 (a : Int) b, max2 (a : Int) b) = _
        unfold min2 max2
        rw [if_neg (by omega), if_pos (by omega)]
      · refine ⟨_, hx, ?_⟩
        show (min2 (b : Int) a, max2 (b : Int) a) = _
        unfold min2 max2
        rw [if_pos (by omega), if_neg (by omega)]
  have hx : ∀ p, p ∈ srtP (ls.map fun x => (min2 x.1 x.2, max2 x.1 x.2)) ↔ ∃ a b : Nat, p = ((a : Int), (b : Int)) ∧ a < b ∧ Adj ls a b := fun p => by
    constructor
    · intro h
      have h' := h
      rw [mem_srtP, List.mem_map] at h'
      obtain ⟨x, hx, e⟩ := h'
      obtain ⟨c, d, rfl, _⟩ := hl.nat hx
      have hp : ∃ a b : Nat, p = ((a : Int), (b : Int)) := by
        rw [← e]
        unfold min2 max2
        dsimp only
        by_cases z : c < d
        · rw [if_neg (by omega), if_pos (by omega)]; exact ⟨c, d, rfl⟩
        · rw [if_pos (by omega), if_neg (by omega)]; exact ⟨d, c, rfl⟩
      obtain ⟨a, b, rfl⟩ := hp
      exact ⟨a, b, rfl, (hm a b).mp h⟩
    · rintro ⟨a, b, rfl, h⟩
      exact (hm a b).mpr h
  have sym : ∀ a b, Adj ls a b → Adj ls b a := fun a b h => h.symm
  have lt : ∀ a b, Adj ls a b → a < n ∧ b < n ∧ a ≠ b := fun a b h => by
    rcases h with h | h
    · have := hl.ok _ h; dsimp only at this; omega
    · have := hl.ok _ h; dsimp only at this; omega
  have lv : LV n (srtP (ls.map fun x => (min2 x.1 x.2, max2 x.1 x.2))) := ⟨fun p hp => by
    obtain ⟨a, b, rfl, h1, h2⟩ := (hx p).mp hp
    have := lt a b h2
    dsimp only; omega⟩
  have ad : ∀ a b, Adj (srtP (ls.map fun x => (min2 x.1 x.2, max2 x.1 x.2))) a b ↔ Adj ls a b := fun a b => by
    show (_ ∈ _ ∨ _ ∈ _) ↔ _
    rw [hm a b, hm b a]
    constructor
    · rintro (h | h)
      · exact h.2
      · exact sym _ _ h.2
    · intro h
      have := lt a b h
      by_cases z : a < b
      · exact .inl ⟨z, h⟩
      · exact .inr ⟨by omega, sym _ _ h⟩
  refine P.To.bind (near_masks_ok hn lv) fun ms _ hms => ?_
  obtain ⟨m1, m2⟩ := hms
  have mk : ∀ a, a < n → ∃ m : Nat, ms[a]? = some (m : Int) ∧ m < 2 ^ n ∧ ∀ b, m.testBit b = true ↔ Adj ls a b := fun a ha => by
    obtain ⟨m, e, h⟩ := m2 a ha
    refine ⟨m, e, ?_, fun b => (h b).trans (ad a b)⟩
    refine Nat.lt_pow_two_of_testBit m fun i hi => ?_
    cases hb : m.testBit i with
    | false => rfl
    | true => have := lt a i ((ad a i).mp ((h i).mp hb)); omega
  refine P.To.bind (lcP_to (fun (x : Int) (l : List Int) => ∀ m : Nat, x = m → m < 2 ^ n → (∀ y : Int, y ∈ l ↔ ∃ i : Nat, y = i ∧ m.testBit i = true) ∧ l.Pairwise (· < ·)) (by omega) fun x hx' => ?_) fun nr _ hnr => ?_
  · obtain ⟨i, hi⟩ := List.mem_iff_getElem?.mp hx'
    have il := (List.getElem?_eq_some_iff.mp hi).1
    obtain ⟨m, e, h2, _⟩ := mk i (by omega)
    rw [hi] at e
    cases e
    obtain ⟨l, e1, k1, k2, _⟩ := places_of_ok h2 (by omega)
    refine ⟨l, by rw [e1]; rfl, fun m' e' _ => ?_⟩
    rw [← Int.ofNat_inj.mp e']
    exact ⟨k1, k2⟩
  · refine P.To.ok ⟨rfl, hn, lt, sym, hx, ord_srtP, m1, mk, by rw [hnr.1]; exact m1, fun a ha => ?_⟩
    obtain ⟨m, e, h2, h3⟩ := mk a ha
    obtain ⟨l, el⟩ : ∃ l, nr[a]? = some l := ⟨_, List.getElem?_eq_getElem (by rw [hnr.1, m1]; exact ha)⟩
    obtain ⟨k1, k2⟩ := hnr.2 a m l e el m rfl h2
    refine ⟨l, el, fun x => ?_, k2⟩
    rw [k1 x]
    exact exists_congr fun b => and_congr Iff.rfl (h3 b)
theorem Web_eq_self (w : Web) : f_Web__eq w w = .ok true := by
  unfold f_Web__eq
  simp
/-! ### scenes -/
theorem check_picture_ok {n : Nat} {pic : List Int} (h : Pic n pic) : f_check_picture n pic = .ok () := by
  unfold f_check_picture
  rw [foldP_ok (fun _ _ => ()) fun x hx s => ?_, P.ok_bind, if_neg (by rw [h.len]; simp)]
  obtain ⟨i, e, hi⟩ := enumI_mem hx
  have hl := (List.getElem?_eq_some_iff.mp hi).1
  have hs := h.st _ (List.mem_of_getElem? hi)
  rw [h.len] at hl
  rw [if_neg]
  rw [e, decide_eq_false (by omega : ¬ (n : Int) ≤ (i : Int)), decide_eq_true (by rcases hs with e | e | e <;> rw [e] <;> simp : x.2 ∈ [(0 : Int), 1, 2])]
  decide
theorem Scene_new_ok {n : Nat} {w : Web} (hw : w.size = n) {pic : List Int} (h : Pic n pic) : f_Scene_new w pic = .ok ⟨w, pic⟩ := by
  unfold f_Scene_new
  rw [hw, check_picture_ok h]
  rfl
open Classical in
/-- the picture one beat later -/
noncomputable def nxt (n : Nat) (adj : Nat → Nat → Prop) (pic T : List Int) : List Int := (List.range n).map fun b => if pic.getD b 0 = 1 then 2 else if pic.getD b 0 = 2 then 0 else if (∃ a, adj b a ∧ pic.getD a 0 = 1) ∨ (b : Int) ∈ T then 1 else 0
theorem nxt_pic (n : Nat) (adj : Nat → Nat → Prop) (pic T : List Int) : Pic n (nxt n adj pic T) := ⟨by unfold nxt; simp, fun s hs => by
  unfold nxt at hs
  obtain ⟨b, _, rfl⟩ := List.mem_map.mp hs
  split
  · simp
  · split
    · simp
    · split <;> simp⟩
theorem getD_pic {n : Nat} {pic : List Int} (h : Pic n pic) {b : Nat} (hb : ¬ b < n) : pic.getD b 0 = 0 := by
  rw [List.getD_eq_getElem?_getD, List.getElem?_eq_none (by rw [h.len]; omega)]; rfl
theorem masks_of_scene_ok {n : Nat} (hn : n ≤ 60) {w : Web} {pic : List Int} (h : Pic n pic) : P.To (f_masks_of_scene ⟨w, pic⟩) fun m => ∃ f r : Nat, m = ((f : Int), (r : Int)) ∧ (∀ b, f.testBit b = true ↔ pic.getD b 0 = 1) ∧ ∀ b, r.testBit b = true ↔ pic.getD b 0 = 2 := by
  unfold f_masks_of_scene
  refine P.To.bind (foldP_inv (fun i (s : Int × Int) => ∃ f r : Nat, s = ((f : Int), (r : Int)) ∧ (∀ b, f.testBit b = true ↔ b < i ∧ pic.getD b 0 = 1) ∧ ∀ b, r.testBit b = true ↔ b < i ∧ pic.getD b 0 = 2) ⟨0, 0, rfl, fun b => by simp, fun b => by simp⟩ fun i x s hi hj => ?_) fun s _ hs => ?_
  · obtain ⟨f, r, rfl, hf, hr⟩ := hj
    rw [enumI_get] at hi
    obtain ⟨v, hv, rfl⟩ := Option.map_eq_some_iff.mp hi
    have hl := (List.getElem?_eq_some_iff.mp hv).1
    have gd : pic.getD i 0 = v := by rw [List.getD_eq_getElem?_getD, hv]; rfl
    have i60 : i < 60 := by rw [h.len] at hl; omega
    have st := h.st v (List.mem_of_getElem? hv)
    dsimp only
    rw [Int.zero_add]
    have nw : ∀ (m k : Nat), (∀ b, m.testBit b = true ↔ b < i ∧ pic.getD b 0 = k) → v = k → ∀ b, (m ||| 2 ^ i).testBit b = true ↔ b < i + 1 ∧ pic.getD b 0 = k := fun m k hm e b => by
      rw [Nat.testBit_or, pw_bit, Bool.or_eq_true, hm, decide_eq_true_eq]
      constructor
      · rintro (h | h)
        · exact ⟨by omega, h.2⟩
        · subst h; exact ⟨by omega, gd.trans e⟩
      · rintro ⟨h1, h2⟩
        by_cases z : b = i
        · exact .inr z.symm
        · exact .inl ⟨by omega, h2⟩
    have old : ∀ (m : Nat) (k : Int), (∀ b, m.testBit b = true ↔ b < i ∧ pic.getD b 0 = k) → v ≠ k → ∀ b, m.testBit b = true ↔ b < i + 1 ∧ pic.getD b 0 = k := fun m k hm e b => by
      rw [hm]
      constructor
      · exact fun h => ⟨by omega, h.2⟩
      · rintro ⟨h1, h2⟩
        refine ⟨?_, h2⟩
        by_cases z : b = i
        · subst z; exact absurd (gd.symm.trans h2) e
        · omega
    by_cases c1 : v = 1
    · rw [if_pos (decide_eq_true c1), shlI_one (by omega), P.ok_bind, P.ok_bind, bor_n, P.ok_bind]
      exact P.To.ok ⟨f ||| 2 ^ i, r, rfl, nw f 1 hf c1, old r 2 hr (by omega)⟩
    · rw [if_neg (by simpa using c1)]
      by_cases c2 : v = 2
      · rw [if_pos (decide_eq_true c2), shlI_one (by omega), P.ok_bind, P.ok_bind, bor_n, P.ok_bind, P.ok_bind]
        exact P.To.ok ⟨f, r ||| 2 ^ i, rfl, old f 1 hf c1, nw r 2 hr c2⟩
      · rw [if_neg (by simpa using c2), P.ok_bind, P.ok_bind]
        exact P.To.ok ⟨f, r, rfl, old f 1 hf c1, old r 2 hr c2⟩
  · obtain ⟨f, r, rfl, hf, hr⟩ := hs
    rw [enumI_len, h.len] at hf hr
    refine P.To.ok ⟨f, r, rfl, fun b => ?_, fun b => ?_⟩
    · rw [hf]
      exact ⟨fun h => h.2, fun e => ⟨Decidable.byContradiction fun z => (by rw [getD_pic h z] at e; cases e), e⟩⟩
    · rw [hr]
      exact ⟨fun h => h.2, fun e => ⟨Decidable.byContradiction fun z => (by rw [getD_pic h z] at e; cases e), e⟩⟩
theorem poked_mask_ok {n : Nat} (hn : n ≤ 60) {w : Web} (hw : w.size = n) (T : List Int) : P.To (f_poked_mask w T) fun m => ∃ t : Nat, m = (t : Int) ∧ ∀ b, t.testBit b = true ↔ b < n ∧ (b : Int) ∈ T := by
  unfold f_poked_mask
  refine P.To.bind (foldP_inv (fun i (s : Int) => ∃ t : Nat, s = (t : Int) ∧ ∀ b, t.testBit b = true ↔ b < n ∧ (b : Int) ∈ T.take i) ⟨0, rfl, fun b => by simp⟩ fun i x s hi hj => ?_) fun s _ hs => ?_
  · obtain ⟨t, rfl, ht⟩ := hj
    rw [take_snoc hi, hw]
    by_cases c : 0 ≤ x ∧ x < n
    · rw [decide_eq_true c.1, decide_eq_true c.2, Bool.and_self, if_pos rfl]
      obtain ⟨k, rfl⟩ : ∃ k : Nat, x = k := ⟨x.toNat, by omega⟩
      rw [shlI_one (by omega), P.ok_bind, P.ok_bind, bor_n, P.ok_bind]
      refine P.To.ok ⟨t ||| 2 ^ k, rfl, fun b => ?_⟩
      rw [Nat.testBit_or, pw_bit, Bool.or_eq_true, ht, decide_eq_true_eq, List.mem_append, List.mem_singleton, Int.ofNat_inj]
      constructor
      · rintro (h | h)
        · exact ⟨h.1, .inl h.2⟩
        · exact ⟨by omega, .inr h.symm⟩
      · rintro ⟨h1, h2 | h2⟩
        · exact .inl ⟨h1, h2⟩
        · exact .inr h2.symm
    · rw [if_neg (by rw [Bool.and_eq_true, decide_eq_true_eq, decide_eq_true_eq]; exact c), P.ok_bind]
      refine P.To.ok ⟨t, rfl, fun b => ?_⟩
      rw [ht, List.mem_append, List.mem_singleton]
      refine and_congr_right fun hb => ⟨.inl, ?_⟩
      rintro (h | h)
      · exact h
      · exact absurd ⟨by omega, by omega⟩ c
  · obtain ⟨t, rfl, ht⟩ := hs
    rw [List.take_length] at ht
    exact P.To.ok ⟨t, rfl, ht⟩
theorem spread_ok {n : Nat} {adj : Nat → Nat → Prop} {w : Web} (W : WOk n adj w) {f : Nat} (hf : ∀ b, f.testBit b = true → b < n) : P.To (f_spread w.masks f) fun m => ∃ t : Nat, m = (t : Int) ∧ ∀ b, t.testBit b = true ↔ ∃ a, f.testBit a = true ∧ adj a b := by
  unfold f_spread
  have h60 := W.n60
  have f2 : f < 2 ^ n := Nat.lt_pow_two_of_testBit f fun i hi => by
    cases hb : f.testBit i with
    | false => rfl
    | true => have := hf i hb; omega
  refine P.To.bind (places_of_ok f2 (by omega)) fun l _ hl => ?_
  obtain ⟨l1, _, _⟩ := hl
  refine P.To.bind (foldP_inv (fun i (s : Int) => ∃ t : Nat, s = (t : Int) ∧ ∀ b, t.testBit b = true ↔ ∃ a : Nat, (a : Int) ∈ l.take i ∧ adj a b) ⟨0, rfl, fun b => by simp⟩ fun i x s hi hj => ?_) fun s _ hs => ?_
  · obtain ⟨t, rfl, ht⟩ := hj
    obtain ⟨a, rfl, ha⟩ := (l1 x).mp (List.mem_of_getElem? hi)
    obtain ⟨m, em, _, hm⟩ := W.mask a (hf a ha)
    rw [getI_nat em, P.ok_bind, P.ok_bind, bor_n, take_snoc hi]
    refine P.To.ok ⟨t ||| m, rfl, fun b => ?_⟩
    rw [Nat.testBit_or, Bool.or_eq_true, ht, hm]
    constructor
    · rintro (⟨c, h1, h2⟩ | h)
      · exact ⟨c, List.mem_append_left _ h1, h2⟩
      · exact ⟨a, List.mem_append_right _ (List.mem_singleton.mpr rfl), h⟩
    · rintro ⟨c, h1, h2⟩
      rcases List.mem_append.mp h1 with h1 | h1
      · exact .inl ⟨c, h1, h2⟩
      · rw [Int.ofNat_inj.mp (List.mem_singleton.mp h1)] at h2
        exact .inr h2
  · obtain ⟨t, rfl, ht⟩ := hs
    rw [List.take_length] at ht
    refine P.To.ok ⟨t, rfl, fun b => ?_⟩
    rw [ht]
    constructor
    · rintro ⟨a, h1, h2⟩
      obtain ⟨c, e, h3⟩ := (l1 _).mp h1
      rw [Int.ofNat_inj.mp e] at h2
      exact ⟨c, h3, h2⟩
    · rintro ⟨a, h1, h2⟩
      exact ⟨a, (l1 _).mpr ⟨a, rfl, h1⟩, h2⟩
theorem bit_of (m k : Nat) : band ((m / 2 ^ k : Nat) : Int) 1 = if m.testBit k = true then 1 else 0 := by
  rw [show (1 : Int) = ((1 : Nat) : Int) from rfl, band_n, Nat.and_one_is_mod]
  have : m.testBit k = decide (m / 2 ^ k % 2 = 1) := by
    rw [Nat.testBit_eq_decide_div_mod_eq]
  rw [this]
  rcases Nat.mod_two_eq_zero_or_one (m / 2 ^ k) with e | e <;> rw [e] <;> rfl
theorem step_ok {n : Nat} {adj : Nat → Nat → Prop} {w : Web} (W : WOk n adj w) {pic : List Int} (h : Pic n pic) (T : List Int) : f_step ⟨w, pic⟩ T = .ok ⟨w, nxt n adj pic T⟩ := by
  have key : P.To (f_step ⟨w, pic⟩ T) (· = ⟨w, nxt n adj pic T⟩) := by
    unfold f_step
    have h60 := W.n60
    refine P.To.bind (masks_of_scene_ok h60 h) fun m _ hm => ?_
    obtain ⟨f, r, rfl, hf, hr⟩ := hm
    refine P.To.bind (poked_mask_ok h60 W.size T) fun t _ ht => ?_
    obtain ⟨t, rfl, ht⟩ := ht
    refine P.To.bind (p := fun m => ∃ c : Nat, m = ((c : Int), (f : Int)) ∧ ∀ b, c.testBit b = true ↔ ((∃ a, f.testBit a = true ∧ adj a b) ∨ t.testBit b = true) ∧ f.testBit b = false ∧ r.testBit b = false) ?_ fun m _ hm => ?_
    · unfold f_next_masks
      refine P.To.bind (spread_ok W fun b hb => Decidable.byContradiction fun z => by
        have := (hf b).mp hb
        rw [getD_pic h z] at this
        cases this) fun s _ hs => ?_
      obtain ⟨s, rfl, hs⟩ := hs
      rw [P.ok_bind]
      show P.To (.ok (band (bor (s : Int) t) (bnot (bor (f : Int) r)), (f : Int))) _
      rw [bor_n, bor_n]
      obtain ⟨c, e, hc⟩ := Bt.and_not (s ||| t) (f ||| r)
      refine P.To.ok ⟨c, Prod.ext e rfl, fun b => ?_⟩
      rw [hc, Bool.and_eq_true, Nat.testBit_or, Nat.testBit_or, Bool.or_eq_true, hs, Bool.not_eq_true', Bool.or_eq_false_iff]
    · obtain ⟨c, rfl, hc⟩ := hm
      unfold f_scene_of_masks
      rw [W.size, rng0_ok (by omega), P.ok_bind]
      rw [lcP_map (fun x => (if c.testBit x.toNat = true then 1 else 0) + 2 * (if f.testBit x.toNat = true then 1 else 0)) (by rw [upto_len]; omega) fun x hx => by
        obtain ⟨k, rfl⟩ : ∃ k : Nat, x = k := ⟨x.toNat, by have := upto_mem.mp hx; omega⟩
        dsimp only
        rw [shrI_nat, P.ok_bind, shrI_nat, P.ok_bind, bit_of, bit_of, Int.toNat_natCast]]
      have e : (upto n).map (fun x => (if c.testBit x.toNat = true then (1 : Int) else 0) + 2 * (if f.testBit x.toNat = true then 1 else 0)) = nxt n adj pic T := by
        unfold upto nxt
        rw [List.map_map]
        refine List.map_congr_left fun b hb => ?_
        have hb := List.mem_range.mp hb
        show (if c.testBit (b : Int).toNat = true then (1 : Int) else 0) + 2 * (if f.testBit (b : Int).toNat = true then 1 else 0) = _
        rw [Int.toNat_natCast]
        by_cases c1 : pic.getD b 0 = 1
        · have f1 := (hf b).mpr c1
          rw [if_pos c1, if_pos f1, if_neg fun z => by have := ((hc b).mp z).2.1; rw [f1] at this; cases this]
          rfl
        · have f1 : ¬ f.testBit b = true := fun z => c1 ((hf b).mp z)
          rw [if_neg c1, if_neg f1]
          by_cases c2 : pic.getD b 0 = 2
          · have r1 := (hr b).mpr c2
            rw [if_pos c2, if_neg fun z => by have := ((hc b).mp z).2.2; rw [r1] at this; cases this]
            rfl
          · have r1 : ¬ r.testBit b = true := fun z => c2 ((hr b).mp z)
            rw [if_neg c2]
            have q : c.testBit b = true ↔ (∃ a, adj b a ∧ pic.getD a 0 = 1) ∨ (b : Int) ∈ T := by
              rw [hc, ht]
              constructor
              · rintro ⟨⟨a, h1, h2⟩ | h1, _⟩
                · exact .inl ⟨a, W.sym _ _ h2, (hf a).mp h1⟩
                · exact .inr h1.2
              · rintro (⟨a, h1, h2⟩ | h1)
                · exact ⟨.inl ⟨a, (hf a).mpr h2, W.sym _ _ h1⟩, by simpa using f1, by simpa using r1⟩
                · exact ⟨.inr ⟨hb, h1⟩, by simpa using f1, by simpa using r1⟩
            by_cases c3 : c.testBit b = true
            · rw [if_pos c3, if_pos (q.mp c3)]; rfl
            · rw [if_neg c3, if_neg fun z => c3 (q.mpr z)]; rfl
      rw [e, P.ok_bind, Scene_new_ok W.size (nxt_pic _ _ _ _)]
      exact P.To.ok rfl
  obtain ⟨a, e, rfl⟩ := key
  exact e
/-- the mirror -/
def mirS (s : Int) : Int := if s = 1 then 2 else if s = 2 then 1 else 0
def mir (pic : List Int) : List Int := pic.map mirS
theorem mir_pic {n : Nat} {pic : List Int} (h : Pic n pic) : Pic n (mir pic) := ⟨by unfold mir; rw [List.length_map, h.len], fun s hs => by
  unfold mir at hs
  obtain ⟨x, _, rfl⟩ := List.mem_map.mp hs
  unfold mirS
  split
  · simp
  · split <;> simp⟩
theorem mir_get {n : Nat} {pic : List Int} (h : Pic n pic) : lcP (fun state => ((getI [(0 : Int), 2, 1] state).bind fun x => P.ok x).bind fun y => .ok (some y)) pic = .ok (mir pic) ∨ ¬ pic.length ≤ 40000 := by
  by_cases hl : pic.length ≤ 40000
  · left
    rw [lcP_map mirS hl fun x hx => by
      rcases h.st x hx with rfl | rfl | rfl <;> rfl]
    rfl
  · exact .inr hl
theorem mirror_ok {n : Nat} {w : Web} (hw : w.size = n) (hn : n ≤ 60) {pic : List Int} (h : Pic n pic) : f_mirror ⟨w, pic⟩ = .ok ⟨w, mir pic⟩ := by
  unfold f_mirror
  rw [(mir_get h).resolve_right fun z => z (by rw [h.len]; omega), P.ok_bind, Scene_new_ok hw (mir_pic h)]
  rfl
theorem back_ok {n : Nat} {adj : Nat → Nat → Prop} {w : Web} (W : WOk n adj w) {pic : List Int} (h : Pic n pic) (T : List Int) : f_back ⟨w, pic⟩ T = .ok ⟨w, mir (nxt n adj (mir pic) T)⟩ := by
  unfold f_back
  rw [mirror_ok W.size W.n60 h, P.ok_bind, step_ok W (mir_pic h), P.ok_bind, mirror_ok W.size W.n60 (nxt_pic _ _ _ _)]
  rfl
end Fr

/-! FrSpec3: the laws' own beats, mirrors and judges. -/
namespace Fr
open Y
theorem some_len {α : Type} {l : List α} {q : Prop} (h : (∃ x, x ∈ l) ↔ q) : decide ((0 : Int) < (l.length : Int)) = true ↔ q := by
  rw [decide_eq_true_eq, ← h]
  cases l with
  | nil => simp
  | cons x r => exact ⟨fun _ => ⟨x, List.mem_cons_self⟩, fun _ => by rw [List.length_cons]; omega⟩
/-- the neighbours with a state -/
theorem heard_ok {n : Nat} {adj : Nat → Nat → Prop} (lt : ∀ a b, adj a b → b < n) {near : List (List Int)} (N : NOk n adj near) {pic : List Int} (h : Pic n pic) (s : Int) {a : Nat} (ha : a < n) :
    ∃ x, getI near (a : Int) = .ok x ∧ ∃ l, lcP (fun other => ((getI pic other).bind fun x_2 => P.ok (decide (x_2 = s))).bind fun b => if b then (P.ok other).bind fun y => .ok (some y) else .ok none) x = .ok l ∧ (decide ((0 : Int) < (l.length : Int)) = true ↔ ∃ b, adj a b ∧ pic.getD b 0 = s) := by
  obtain ⟨l, e, hl, hm⟩ := N.row a ha
  refine ⟨l, getI_nat e, l.filter (fun other => decide (pic.getD other.toNat 0 = s)) |>.map id, ?_, ?_⟩
  · refine lcP_sel (c := fun other => (getI pic other).bind fun x_2 => P.ok (decide (x_2 = s))) (f := fun other => P.ok other) (fun other => decide (pic.getD other.toNat 0 = s)) id (by omega) (fun x hx => ?_) fun x _ _ => rfl
    obtain ⟨b, rfl, hb⟩ := (hm x).mp hx
    rw [(h.at (lt a b hb)).1, P.ok_bind, Int.toNat_natCast]
  · refine some_len ?_
    constructor
    · rintro ⟨x, hx⟩
      rw [List.map_id, List.mem_filter, decide_eq_true_eq] at hx
      obtain ⟨b, rfl, hb⟩ := (hm x).mp hx.1
      exact ⟨b, hb, hx.2⟩
    · rintro ⟨b, hb, e⟩
      exact ⟨(b : Int), by rw [List.map_id, List.mem_filter, decide_eq_true_eq]; exact ⟨(hm _).mpr ⟨b, rfl, hb⟩, e⟩⟩
theorem getD_take_snoc {α : Type} {xs ys : List α} {i : Nat} {x : α} (h : xs = ys.take i) (hx : ys[i]? = some x) : xs ++ [x] = ys.take (i + 1) := by
  rw [take_snoc hx, h]
theorem nxt_get {n : Nat} {adj : Nat → Nat → Prop} {pic T : List Int} {i : Nat} (h : i < n) {v : Int} (hv : (pic.getD i 0 = 1 ∧ v = 2) ∨ (pic.getD i 0 = 2 ∧ v = 0) ∨ (pic.getD i 0 ≠ 1 ∧ pic.getD i 0 ≠ 2 ∧ ((((∃ a, adj i a ∧ pic.getD a 0 = 1) ∨ (i : Int) ∈ T) ∧ v = 1) ∨ (¬ ((∃ a, adj i a ∧ pic.getD a 0 = 1) ∨ (i : Int) ∈ T) ∧ v = 0)))) : (nxt n adj pic T)[i]? = some v := by
  unfold nxt
  rw [List.getElem?_map, List.getElem?_range h, Option.map_some]
  rcases hv with ⟨h1, rfl⟩ | ⟨h1, rfl⟩ | ⟨h1, h2, ⟨h3, rfl⟩ | ⟨h3, rfl⟩⟩
  · rw [if_pos h1]
  · rw [if_neg (by omega), if_pos h1]
  · rw [if_neg h1, if_neg h2, if_pos h3]
  · rw [if_neg h1, if_neg h2, if_neg h3]
theorem law_step_ok {n : Nat} (hn : n ≤ 60) {adj : Nat → Nat → Prop} (lt : ∀ a b, adj a b → b < n) {near : List (List Int)} (N : NOk n adj near) {pic : List Int} (h : Pic n pic) (T : List Int) : f_law_step near pic T = .ok (nxt n adj pic T) := by
  have key : P.To (f_law_step near pic T) (· = nxt n adj pic T) := by
    unfold f_law_step
    rw [P.ok_bind, h.len, rng0_ok (by omega), P.ok_bind]
    refine P.To.bind (foldP_inv (fun i (s : List Int) => s = (nxt n adj pic T).take i) rfl fun i x s hi hj => ?_) fun s _ hs => ?_
    · obtain ⟨rfl, il⟩ := upto_get hi
      obtain ⟨e, st⟩ := h.at il
      have sl : s.length < 100000 := by rw [hj, List.length_take]; omega
      rw [e, P.ok_bind]
      rcases st with st | st | st
      · rw [st]
        obtain ⟨x, e1, l, e2, hl⟩ := heard_ok lt N h 1 il
        rw [if_neg (by decide), e1, P.ok_bind, e2, P.ok_bind, push_ok sl, P.ok_bind, P.ok_bind]
        refine P.To.ok (getD_take_snoc hj (nxt_get il (.inr (.inr ⟨by omega, by omega, ?_⟩))))
        by_cases c : (∃ a, adj i a ∧ pic.getD a 0 = 1) ∨ (i : Int) ∈ T
        · left
          refine ⟨c, ?_⟩
          rcases c with c | c
          · rw [hl.mpr c]; rfl
          · rw [decide_eq_true c, Bool.or_true]; rfl
        · right
          refine ⟨c, ?_⟩
          have c1 : decide ((0 : Int) < (l.length : Int)) = false := by
            cases z : decide ((0 : Int) < (l.length : Int)) with
            | false => rfl
            | true => exact absurd (.inl (hl.mp z)) c
          rw [c1, decide_eq_false fun z => c (.inr z)]; rfl
      · rw [st, if_pos (by decide)]
        show P.To ((((P.ok 2).bind fun x_1 => (push s x_1).bind fun later_2 => P.ok later_2)).bind fun later_4 => P.ok later_4) _
        rw [P.ok_bind, push_ok sl, P.ok_bind, P.ok_bind]
        exact P.To.ok (getD_take_snoc hj (nxt_get il (.inl ⟨st, rfl⟩)))
      · rw [st, if_pos (by decide)]
        show P.To ((((P.ok 0).bind fun x_1 => (push s x_1).bind fun later_2 => P.ok later_2)).bind fun later_4 => P.ok later_4) _
        rw [P.ok_bind, push_ok sl, P.ok_bind, P.ok_bind]
        exact P.To.ok (getD_take_snoc hj (nxt_get il (.inr (.inl ⟨st, rfl⟩))))
    · rw [upto_len] at hs
      refine P.To.ok ?_
      rw [hs, List.take_of_length_le (by rw [(nxt_pic n adj pic T).len]; omega)]
  obtain ⟨a, e, rfl⟩ := key
  exact e
theorem law_mirror_ok {n : Nat} (hn : n ≤ 60) {pic : List Int} (h : Pic n pic) : f_law_mirror pic = .ok (mir pic) := by
  unfold f_law_mirror
  rw [(mir_get h).resolve_right fun z => z (by rw [h.len]; omega)]
  rfl
theorem mir_getD {n : Nat} {pic : List Int} (h : Pic n pic) (i : Nat) : (mir pic).getD i 0 = mirS (pic.getD i 0) := by
  unfold mir
  rw [List.getD_eq_getElem?_getD, List.getD_eq_getElem?_getD, List.getElem?_map]
  cases pic[i]? <;> rfl
theorem mirS_1 {s : Int} (h : s = 0 ∨ s = 1 ∨ s = 2) : mirS s = 1 ↔ s = 2 := by rcases h with rfl | rfl | rfl <;> decide
theorem mirS_2 {s : Int} (h : s = 0 ∨ s = 1 ∨ s = 2) : mirS s = 2 ↔ s = 1 := by rcases h with rfl | rfl | rfl <;> decide
theorem pic_st {n : Nat} {pic : List Int} (h : Pic n pic) (i : Nat) : pic.getD i 0 = 0 ∨ pic.getD i 0 = 1 ∨ pic.getD i 0 = 2 := by
  by_cases c : i < n
  · exact (h.at c).2
  · exact .inl (getD_pic h c)
/-- one beat back -/
noncomputable def bck (n : Nat) (adj : Nat → Nat → Prop) (pic T : List Int) : List Int := mir (nxt n adj (mir pic) T)
theorem bck_pic (n : Nat) (adj : Nat → Nat → Prop) (pic T : List Int) : Pic n (bck n adj pic T) := mir_pic (nxt_pic _ _ _ _)
theorem law_back_ok {n : Nat} (hn : n ≤ 60) {adj : Nat → Nat → Prop} (lt : ∀ a b, adj a b → b < n) {near : List (List Int)} (N : NOk n adj near) {pic : List Int} (h : Pic n pic) (T : List Int) : f_law_back near pic T = .ok (bck n adj pic T) := by
  have key : P.To (f_law_back near pic T) (· = bck n adj pic T) := by
    unfold f_law_back
    rw [P.ok_bind, h.len, rng0_ok (by omega), P.ok_bind]
    refine P.To.bind (foldP_inv (fun i (s : List Int) => s = (bck n adj pic T).take i) rfl fun i x s hi hj => ?_) fun s _ hs => ?_
    · obtain ⟨rfl, il⟩ := upto_get hi
      obtain ⟨e, st⟩ := h.at il
      have sl : s.length < 100000 := by rw [hj, List.length_take]; omega
      have hget : ∀ v w : Int, (nxt n adj (mir pic) T)[i]? = some v → mirS v = w → (bck n adj pic T)[i]? = some w := fun v w h1 h2 => by
        unfold bck mir
        rw [List.getElem?_map]
        show Option.map mirS ((nxt n adj (mir pic) T)[i]?) = _
        rw [h1, Option.map_some, h2]
      have hex : (∃ a, adj i a ∧ (mir pic).getD a 0 = 1) ↔ ∃ a, adj i a ∧ pic.getD a 0 = 2 := exists_congr fun a => and_congr Iff.rfl (by rw [mir_getD h, mirS_1 (pic_st h a)])
      obtain ⟨x, e1, l, e2, hl⟩ := heard_ok lt N h 2 il
      rw [e, P.ok_bind, e1, P.ok_bind, e2, P.ok_bind]
      rcases st with st | st | st
      · rw [st]
        have m0 : (mir pic).getD i 0 = 0 := by rw [mir_getD h, st]; rfl
        by_cases c : (∃ a, adj i a ∧ pic.getD a 0 = 2) ∨ (i : Int) ∈ T
        · rw [if_pos (by
            rcases c with c | c
            · rw [hl.mpr c]; rfl
            · rw [decide_eq_true c, Bool.or_true]; rfl), push_ok sl, P.ok_bind, P.ok_bind]
          refine P.To.ok (getD_take_snoc hj (hget 1 2 (nxt_get il (.inr (.inr ⟨by omega, by omega, .inl ⟨?_, rfl⟩⟩))) rfl))
          exact c.imp hex.mpr id
        · have c1 : decide ((0 : Int) < (l.length : Int)) = false := by
            cases z : decide ((0 : Int) < (l.length : Int)) with
            | false => rfl
            | true => exact absurd (.inl (hl.mp z)) c
          rw [if_neg (by rw [c1, decide_eq_false fun z => c (.inr z)]; decide)]
          show P.To ((((P.ok 0).bind fun x_1 => (push s x_1).bind fun later_2 => P.ok later_2)).bind fun later_4 => P.ok later_4) _
          rw [P.ok_bind, push_ok sl, P.ok_bind, P.ok_bind]
          refine P.To.ok (getD_take_snoc hj (hget 0 0 (nxt_get il (.inr (.inr ⟨by omega, by omega, .inr ⟨?_, rfl⟩⟩))) rfl))
          exact fun z => c (z.imp hex.mp id)
      · rw [st, if_neg (by simp)]
        show P.To ((((P.ok 0).bind fun x_1 => (push s x_1).bind fun later_2 => P.ok later_2)).bind fun later_4 => P.ok later_4) _
        rw [P.ok_bind, push_ok sl, P.ok_bind, P.ok_bind]
        exact P.To.ok (getD_take_snoc hj (hget 0 0 (nxt_get il (.inr (.inl ⟨by rw [mir_getD h, st]; rfl, rfl⟩))) rfl))
      · rw [st, if_neg (by simp)]
        show P.To ((((P.ok 1).bind fun x_1 => (push s x_1).bind fun later_2 => P.ok later_2)).bind fun later_4 => P.ok later_4) _
        rw [P.ok_bind, push_ok sl, P.ok_bind, P.ok_bind]
        exact P.To.ok (getD_take_snoc hj (hget 2 1 (nxt_get il (.inl ⟨by rw [mir_getD h, st]; rfl, rfl⟩)) rfl))
    · rw [upto_len] at hs
      refine P.To.ok ?_
      rw [hs, List.take_of_length_le (by rw [(bck_pic n adj pic T).len]; omega)]
  obtain ⟨a, e, rfl⟩ := key
  exact e
/-! judges -/
theorem law_row_ok {xs : List Int} (h : xs.length ≤ 40000) : f_law_row xs (xs.length : Int) = .ok true := by
  unfold f_law_row
  rw [if_pos rfl, if_pos (decide_eq_true rfl)]
  rw [lcP_sel (c := fun x => (f_law_whole x).bind fun y => P.ok (!y)) (f := fun x => P.ok x) (fun _ => false) id h (fun _ _ => rfl) fun _ _ z => nomatch z]
  simp [P.okb]
theorem is_scene_ok {n : Nat} {w : Web} {pic : List Int} (hn : n ≤ 60) (h : Pic n pic) : f_law_is_scene ⟨w, pic⟩ w pic = .ok true := by
  unfold f_law_is_scene
  rw [if_neg (by decide), Web_eq_self, P.ok_bind, P.ok_bind, if_neg (by decide)]
  rw [law_row_ok (by rw [h.len]; omega), P.ok_bind, decide_eq_true rfl]
  rfl
theorem nxt_congr {n : Nat} {adj : Nat → Nat → Prop} {pic T T' : List Int} (h : ∀ x, x ∈ T ↔ x ∈ T') : nxt n adj pic T = nxt n adj pic T' := by
  unfold nxt
  refine List.map_congr_left fun b _ => ?_
  by_cases c1 : pic.getD b 0 = 1
  · rw [if_pos c1, if_pos c1]
  · rw [if_neg c1, if_neg c1]
    by_cases c2 : pic.getD b 0 = 2
    · rw [if_pos c2, if_pos c2]
    · rw [if_neg c2, if_neg c2]
      by_cases c3 : (∃ a, adj b a ∧ pic.getD a 0 = 1) ∨ (b : Int) ∈ T
      · rw [if_pos c3, if_pos (c3.imp id (h _).mp)]
      · rw [if_neg c3, if_neg fun z => c3 (z.imp id (h _).mpr)]
end Fr

/-! L36: the law. -/
namespace P36
open Y Fr
theorem law_asked_ok {n : Nat} {adj : Nat → Nat → Prop} {w : Web} (W : WOk n adj w) {near : List (List Int)} (N : NOk n adj near) {pic : List Int} (h : Pic n pic) {T : List Int} (hT : T.length ≤ 1000) : f_law_asked ⟨w, pic⟩ w near pic T = .ok true := by
  have h60 := W.n60
  have lt : ∀ a b, adj a b → b < n := fun a b z => (W.lt a b z).2.1
  unfold f_law_asked
  rw [law_back_ok h60 lt N h, P.ok_bind, law_mirror_ok h60 h, P.ok_bind, law_step_ok h60 lt N (mir_pic h), P.ok_bind, law_mirror_ok h60 (nxt_pic _ _ _ _), P.ok_bind]
  have e1 : bck n adj pic T = mir (nxt n adj (mir pic) T) := rfl
  rw [← e1, decide_eq_true rfl, if_neg (by decide)]
  have hb : ∀ T', f_back ⟨w, pic⟩ T' = .ok ⟨w, bck n adj pic T'⟩ := fun T' => back_ok W h T'
  rw [hb, P.ok_bind, is_scene_ok h60 (bck_pic _ _ _ _), P.ok_bind, decide_eq_true rfl, if_neg (by decide), hb, P.ok_bind, law_back_ok h60 lt N h, P.ok_bind, is_scene_ok h60 (bck_pic _ _ _ _), P.ok_bind, if_neg (by decide),
    cat_ok (by omega), P.ok_bind, hb, P.ok_bind]
  have e2 : bck n adj pic (T ++ T) = bck n adj pic T := by
    unfold bck
    rw [nxt_congr (T' := T) fun x => by simp]
  rw [e2, is_scene_ok h60 (bck_pic _ _ _ _), P.ok_bind, if_neg (by decide), is_scene_ok h60 h, P.ok_bind, if_pos rfl, P.ok_bind, P.ok_bind, is_scene_ok h60 (bck_pic _ _ _ _)]
  rfl
def thrSs : List Int := [50, 60, 60] ++ (List.replicate 60 [5, 3]).flatten
theorem thr_at : ∀ k, k < 60 → thrSs[3 + 2 * k]? = some 5 ∧ thrSs[4 + 2 * k]? = some 3 := by decide
def ThrQ (w : Int × List (Int × Int) × List Int) : Prop := ∃ n : Nat, w.1 = n ∧ n ≤ 60 ∧ LV n w.2.1 ∧ w.2.1.length < 64 ∧ Pic n w.2.2
theorem law_thread_ok {row : List Int} (d : Digs thrSs row) : P.To (f_law_thread row) ThrQ := by
  unfold f_law_thread
  obtain ⟨e0, a0, b0⟩ := d.at (i := 0) (by omega) (s := 50) rfl
  obtain ⟨e1, a1, b1⟩ := d.at (i := 1) (by omega) (s := 60) rfl
  obtain ⟨e2, a2, b2⟩ := d.at (i := 2) (by omega) (s := 60) rfl
  rw [e0, P.ok_bind, P.ok_bind]
  obtain ⟨n, hn⟩ : ∃ n : Nat, 11 + row.getD (0 : Int).toNat 0 = n := ⟨(11 + row.getD (0 : Int).toNat 0).toNat, by omega⟩
  have hn' : 11 ≤ n ∧ n ≤ 60 := by omega
  rw [hn, rng0_int (by omega) (by omega), P.ok_bind]
  have g : ∀ k : Int, 0 ≤ k → k < n → (getI row (3 + 2 * k) = .ok (row.getD (3 + 2 * k).toNat 0)) ∧ (getI row (4 + 2 * k) = .ok (row.getD (4 + 2 * k).toNat 0) ∧ 0 ≤ row.getD (4 + 2 * k).toNat 0 ∧ row.getD (4 + 2 * k).toNat 0 < 3) := fun k h0 h1 => by
    obtain ⟨q1, q2⟩ := thr_at k.toNat (by omega)
    refine ⟨(d.at (by omega) (s := 5) ?_).1, d.at (by omega) (s := 3) ?_⟩
    · rw [← q1]; congr 1; omega
    · rw [← q2]; congr 1; omega
  have il : (upto ((n : Int) - 1).toNat).length ≤ 40000 := by rw [upto_len]; omega
  rw [lcP_sel (c := fun k => (getI row (3 + 2 * k)).bind fun x_1 => P.ok (decide (0 < x_1))) (f := fun k => P.ok (k, k + 1)) (fun k => decide (0 < row.getD (3 + 2 * k).toNat 0)) (fun k => (k, k + 1)) il (fun x hx => by
    have := upto_mem.mp hx
    rw [(g x (by omega) (by omega)).1]; rfl) fun _ _ _ => rfl]
  rw [P.ok_bind, e1, P.ok_bind, modI_ok (by omega), P.ok_bind, e2, P.ok_bind, modI_ok (by omega), P.ok_bind]
  have kl : LV n (((upto ((n : Int) - 1).toNat).filter fun k => decide (0 < row.getD (3 + 2 * k).toNat 0)).map fun k => (k, k + 1)) := ⟨fun p hp => by
    obtain ⟨k, hk, rfl⟩ := List.mem_map.mp hp
    have := upto_mem.mp (List.mem_filter.mp hk).1
    dsimp only; omega⟩
  have kn : (((upto ((n : Int) - 1).toNat).filter fun k => decide (0 < row.getD (3 + 2 * k).toNat 0)).map fun k => (k, k + 1)).length ≤ 59 := by
    rw [List.length_map]
    have := List.length_filter_le (fun k : Int => decide (0 < row.getD (3 + 2 * k).toNat 0)) (upto ((n : Int) - 1).toNat)
    rw [upto_len] at this
    omega
  generalize (((upto ((n : Int) - 1).toNat).filter fun k => decide (0 < row.getD (3 + 2 * k).toNat 0)).map fun k => (k, k + 1)) = kn0 at kl kn ⊢
  have m1 : 0 ≤ row.getD (1 : Int).toNat 0 % n ∧ row.getD (1 : Int).toNat 0 % n < n := ⟨Int.emod_nonneg _ (by omega), Int.emod_lt_of_pos _ (by omega)⟩
  have m2 : 0 ≤ row.getD (2 : Int).toNat 0 % n ∧ row.getD (2 : Int).toNat 0 % n < n := ⟨Int.emod_nonneg _ (by omega), Int.emod_lt_of_pos _ (by omega)⟩
  generalize row.getD (1 : Int).toNat 0 % n = a at m1 ⊢
  generalize row.getD (2 : Int).toNat 0 % n = b at m2 ⊢
  refine P.To.bind (p := fun ls : List (Int × Int) => LV n ls ∧ ls.length < 64) ?_ fun ls _ hls => ?_
  · split
    · rename_i c
      rw [decide_eq_true_eq] at c
      rw [push_ok (by omega), P.ok_bind]
      refine P.To.ok ⟨⟨fun p hp => ?_⟩, by rw [List.length_append, List.length_singleton]; omega⟩
      rcases List.mem_append.mp hp with hp | hp
      · exact kl.ok p hp
      · rw [List.mem_singleton.mp hp]
        dsimp only; omega
    · exact P.To.ok ⟨kl, by omega⟩
  · rw [rng0_ok (by omega), P.ok_bind]
    rw [lcP_map (fun k => row.getD (4 + 2 * k).toNat 0) (by rw [upto_len]; omega) fun x hx => by
      have := upto_mem.mp hx
      rw [(g x (by omega) (by omega)).2.1]; rfl]
    refine P.To.ok ⟨n, rfl, hn'.2, hls.1, hls.2, by show (List.map _ _).length = n; rw [List.length_map, upto_len], fun s hs => ?_⟩
    obtain ⟨k, hk, rfl⟩ := List.mem_map.mp hs
    have h1 := upto_mem.mp hk
    have := (g k (by omega) (by omega)).2.2
    omega
def rowSs : List Int := [12, 7, 11, 11, 11, 11, 11, 11, 6]
theorem law_true (ns : List Int) : f_law ns = .ok true := by
  have key : P.To (f_law ns) (· = true) := by
    unfold f_law
    refine P.To.bind (law_scene_ok ns (at_ := 0) (most := 7) (by omega) (by omega) (by omega) (by omega)) fun d1 _ hd1 => ?_
    obtain ⟨c4, hc4⟩ := law_cell_ok ns (k := 4) (by omega) (by omega)
    rw [hc4, P.ok_bind, show rep [(11 : Int)] 6 = .ok [11, 11, 11, 11, 11, 11] from rep_ok (n := 6) (by omega) (by decide), P.ok_bind, cat_ok (by decide), P.ok_bind, cat_ok (by decide), P.ok_bind]
    refine P.To.bind (law_digits_ok c4 (ss := rowSs) (by decide) (by decide)) fun row _ hd => ?_
    obtain ⟨e0, a0, b0⟩ := hd.at (i := 0) (by omega) (s := 12) rfl
    obtain ⟨e1, a1, b1⟩ := hd.at (i := 1) (by omega) (s := 7) rfl
    obtain ⟨e8, a8, b8⟩ := hd.at (i := 8) (by omega) (s := 6) rfl
    rw [e8, P.ok_bind]
    refine P.To.bind (p := ThrQ) ?_ fun dr _ hdr => ?_
    · split
      · obtain ⟨c3, hc3⟩ := law_cell_ok ns (k := 3) (by omega) (by omega)
        rw [hc3, P.ok_bind, show rep [(5 : Int), 3] 60 = .ok ((List.replicate 60 [(5 : Int), 3]).flatten) from rep_ok (n := 60) (by omega) (by decide), P.ok_bind, cat_ok (by decide), P.ok_bind]
        refine P.To.bind (law_digits_ok c3 (ss := thrSs) (by decide) (by decide)) fun row2 _ hd2 => ?_
        refine P.To.bind (law_thread_ok hd2) fun t _ ht => P.To.ok ht
      · obtain ⟨n, q1, q2, q3, q4, q5, q6⟩ := hd1
        exact P.To.ok ⟨n, q1, by omega, q4.lv, by omega, q6⟩
    · obtain ⟨n, q1, q2, q3, q4, q5⟩ := hdr
      rw [e0, P.ok_bind, q1, P.ok_bind]
      generalize ht : decide ((0 : Int) < row.getD (0 : Int).toNat 0) = t
      obtain ⟨m, hm⟩ : ∃ m : Nat, m = if t then n else 0 := ⟨_, rfl⟩
      have em : (n : Int) * b2i t = m := by rw [hm]; cases t <;> simp [b2i]
      rw [em]
      have hml : m ≤ n := by rw [hm]; cases t <;> simp
      rw [lcF_ok (by omega), P.ok_bind, P.ok_bind, slc_take (by rw [q5.len]; exact hml), List.map_id']
      have hl : LV m (List.filter (fun line : Int × Int => decide ((0 : Int) < (m : Int))) dr.2.1) := ⟨fun p hp => by
        obtain ⟨h1, h2⟩ := List.mem_filter.mp hp
        rw [decide_eq_true_eq] at h2
        have h3 := q3.ok p h1
        have : m = n := by
          rw [hm] at h2 ⊢
          cases t
          · simp at h2
          · rfl
        rw [this]; exact h3⟩
      have hll : (List.filter (fun line : Int × Int => decide ((0 : Int) < (m : Int))) dr.2.1).length < 64 := Nat.lt_of_le_of_lt (List.length_filter_le _ _) q4
      generalize List.filter (fun line : Int × Int => decide ((0 : Int) < (m : Int))) dr.2.1 = ls at hl hll ⊢
      have hp : Pic m (dr.2.2.take m) := ⟨by rw [List.length_take, q5.len]; omega, fun s hs => q5.st s (List.mem_of_mem_take hs)⟩
      generalize dr.2.2.take m = pic at hp ⊢
      refine P.To.bind (law_near_ok (by omega) hl (by omega)) fun near _ N => ?_
      refine P.To.bind (Web_new_ok (by omega) hl hll) fun w _ W => ?_
      have lt : ∀ a b, Adj ls a b → b < m := fun a b z => (W.lt a b z).2.1
      rw [e1, P.ok_bind, rng0_int (by omega) (by omega), P.ok_bind]
      have g : ∀ k : Int, 0 ≤ k → k < 6 → getI row (2 + k) = .ok (row.getD (2 + k).toNat 0) := fun k h0 h1 => (hd.at (by omega) (s := 11) (by
        have : k = 0 ∨ k = 1 ∨ k = 2 ∨ k = 3 ∨ k = 4 ∨ k = 5 := by omega
        rcases this with rfl | rfl | rfl | rfl | rfl | rfl <;> rfl)).1
      rw [lcP_map (fun k => row.getD (2 + k).toNat 0 - 2) (by rw [upto_len]; omega) fun x hx => by
        have := upto_mem.mp hx
        rw [g x (by omega) (by omega)]; rfl]
      rw [P.ok_bind, P.ok_bind]
      have hT : ((upto (row.getD (1 : Int).toNat 0).toNat).map fun k => row.getD (2 + k).toNat 0 - 2).length ≤ 100 := by rw [List.length_map, upto_len]; omega
      generalize ((upto (row.getD (1 : Int).toNat 0).toNat).map fun k => row.getD (2 + k).toNat 0 - 2) = T0 at hT ⊢
      refine P.To.bind (p := fun T : List Int => T.length ≤ 100) ?_ fun T _ hT => ?_
      · split
        · rw [lcM_ok (by omega), P.ok_bind]
          exact P.To.ok (by rw [List.length_map]; exact hT)
        · exact P.To.ok hT
      · rw [Scene_new_ok W.size hp, P.ok_bind, law_asked_ok W N hp (by omega), P.ok_bind, if_neg (by decide), law_mirror_ok (by omega) hp, P.ok_bind, Scene_new_ok W.size (mir_pic hp), P.ok_bind, back_ok W (mir_pic hp), P.ok_bind,
          law_back_ok (by omega) lt N (mir_pic hp), P.ok_bind]
        have e := is_scene_ok (w := w) W.n60 (bck_pic m (Adj ls) (mir pic) T)
        have e' : (⟨w, mir (nxt m (Adj ls) (mir (mir pic)) T)⟩ : Scene) = ⟨w, bck m (Adj ls) (mir pic) T⟩ := rfl
        rw [e', e, P.ok_bind]
        exact P.To.ok rfl
  obtain ⟨a, e, rfl⟩ := key
  exact e
end P36

/-! F36: the law, over the language. -/
namespace P36
theorem main (ns : List Int) (h : ns.length ≤ 63) : Z.runD (Gn Fr.WF 6) f35 [.lst .ro (ns.map Z.D.int)] = some (.bl true) := main_of (fun ns _ => law_true ns) ns h
end P36

open PySem PySem.W PyProof.Rows
set_option maxRecDepth 100000 in
set_option maxHeartbeats 0 in
theorem PySem.Challenge.cw_firerest_k36_back_steps_holds : PySem.Challenge.rw_firerest_k36_back_steps.Holds := by
  w_on; o_law; k_head; (case hw => w_witness2)
  k_fill
  refine L2.walk_of (n := 63) (k := 2 * 6 + 2) (x := "script") (CX := fun _ => C8.CX0) (sp := fun w => P36.spLaw _) rfl (by decide) rfl ⟨rfl, by decide, by decide⟩ (fun w h Y => PySem.W.kIn_of Y) ?F (fun _ _ a ns hl _ hS => ⟨a, ns, rfl, hS, hl, fun _ => rfl⟩) fun _ _ _ _ _ z => z
  case F =>
    intro w mg fa h KX G hmg
    refine' P36.fin (wf := Fr.WF) (d := 6) P36.main KX G hmg ?cx0 ?pg0 ?hd0 ?po0 ?sa0 ?mk0 ?kc0 ?sf0 ?ha0 ?hm0 ?me0 ?n0_0 ?n0_1 ?n0_2 ?n0_3 ?n0_4 ?n0_5 ?cx1 ?pg1 ?hd1 ?po1 ?sa1 ?mk1 ?kc1 ?sf1 ?ha1 ?hm1 ?me1 ?n1_0 ?n1_1 ?n1_2 ?n1_3 ?n1_4 ?n1_5 ?xg_MIRRORED ?lg_MIRRORED ?x0 ?l0 ?e0 ?u0 ?x1 ?l1 ?e1 ?u1 ?x2 ?l2 ?e2 ?u2 ?x3 ?i3 ?l3 ?e3 ?u3 ?w3_0 ?v3 ?x4 ?i4 ?l4 ?e4 ?u4 ?x5 ?i5 ?l5 ?e5 ?u5 ?x6 ?i6 ?l6 ?e6 ?u6 ?x7 ?i7 ?l7 ?e7 ?u7 ?x8 ?i8 ?l8 ?e8 ?u8 ?x9 ?l9 ?e9 ?u9 ?x10 ?l10 ?e10 ?u10 ?x11 ?i11 ?l11 ?e11 ?u11 ?x12 ?i12 ?l12 ?e12 ?u12 ?x13 ?l13 ?e13 ?u13 ?x14 ?l14 ?e14 ?u14 ?x15 ?l15 ?e15 ?u15 ?x16 ?l16 ?e16 ?u16 ?x17 ?l17 ?e17 ?u17 ?x18 ?l18 ?e18 ?u18 ?x19 ?l19 ?e19 ?u19 ?w19_0 ?v19 ?x20 ?l20 ?e20 ?u20 ?w20_0 ?v20 ?x21 ?l21 ?e21 ?u21 ?x22 ?l22 ?e22 ?u22 ?x23 ?l23 ?e23 ?u23 ?x24 ?l24 ?e24 ?u24 ?x25 ?l25 ?e25 ?u25 ?x26 ?l26 ?e26 ?u26 ?x27 ?l27 ?e27 ?u27 ?x28 ?l28 ?e28 ?u28 ?x29 ?l29 ?e29 ?u29 ?x30 ?l30 ?e30 ?u30 ?x31 ?l31 ?e31 ?u31 ?x32 ?l32 ?e32 ?u32 ?x33 ?l33 ?e33 ?u33 ?x34 ?l34 ?e34 ?u34 ?x35 ?l35 ?e35 ?u35 ?ghn ?gtk ?z_bool ?z_enumerate ?z_int ?z_isinstance ?z_len ?z_list ?z_max ?z_min ?z_range ?z_set ?z_sorted ?z_tuple
    (case cx0 => k_is)
    (case pg0 => k_is)
    (case hd0 => k_is)
    (case po0 => k_is)
    (case sa0 => k_is)
    (case mk0 => k_is)
    (case kc0 => k_is)
    (case sf0 => k_is)
    (case ha0 => k_is)
    (case hm0 => k_is)
    (case me0 => kit_is)
    (case n0_0 => k_is)
    (case n0_1 => k_is)
    (case n0_2 => k_is)
    (case n0_3 => k_is)
    (case n0_4 => k_is)
    (case n0_5 => k_is)
    (case cx1 => k_is)
    (case pg1 => k_is)
    (case hd1 => k_is)
    (case po1 => k_is)
    (case sa1 => k_is)
    (case mk1 => k_is)
    (case kc1 => k_is)
    (case sf1 => k_is)
    (case ha1 => k_is)
    (case hm1 => k_is)
    (case me1 => kit_is)
    (case n1_0 => k_is)
    (case n1_1 => k_is)
    (case n1_2 => k_is)
    (case n1_3 => k_is)
    (case n1_4 => k_is)
    (case n1_5 => k_is)
    (case xg_MIRRORED => k_is)
    (case lg_MIRRORED => k_is)
    (case x0 => k_is)
    (case l0 => k_is)
    (case e0 => k_is)
    (case u0 => k_is)
    (case x1 => k_is)
    (case l1 => k_is)
    (case e1 => k_is)
    (case u1 => k_is)
    (case x2 => k_is)
    (case l2 => k_is)
    (case e2 => k_is)
    (case u2 => k_is)
    (case x3 => k_is)
    (case i3 => k_is)
    (case l3 => k_is)
    (case e3 => k_is)
    (case u3 => k_is)
    (case v3 => k_is)
    (case x4 => k_is)
    (case i4 => k_is)
    (case l4 => k_is)
    (case e4 => k_is)
    (case u4 => k_is)
    (case x5 => k_is)
    (case i5 => k_is)
    (case l5 => k_is)
    (case e5 => k_is)
    (case u5 => k_is)
    (case x6 => k_is)
    (case i6 => k_is)
    (case l6 => k_is)
    (case e6 => k_is)
    (case u6 => k_is)
    (case x7 => k_is)
    (case i7 => k_is)
    (case l7 => k_is)
    (case e7 => k_is)
    (case u7 => k_is)
    (case x8 => k_is)
    (case i8 => k_is)
    (case l8 => k_is)
    (case e8 => k_is)
    (case u8 => k_is)
    (case x9 => k_is)
    (case l9 => k_is)
    (case e9 => k_is)
    (case u9 => k_is)
    (case x10 => k_is)
    (case l10 => k_is)
    (case e10 => k_is)
    (case u10 => k_is)
    (case x11 => k_is)
    (case i11 => k_is)
    (case l11 => k_is)
    (case e11 => k_is)
    (case u11 => k_is)
    (case x12 => k_is)
    (case i12 => k_is)
    (case l12 => k_is)
    (case e12 => k_is)
    (case u12 => k_is)
    (case x13 => k_is)
    (case l13 => k_is)
    (case e13 => k_is)
    (case u13 => k_is)
    (case x14 => k_is)
    (case l14 => k_is)
    (case e14 => k_is)
    (case u14 => k_is)
    (case x15 => k_is)
    (case l15 => k_is)
    (case e15 => k_is)
    (case u15 => k_is)
    (case x16 => k_is)
    (case l16 => k_is)
    (case e16 => k_is)
    (case u16 => k_is)
    (case x17 => k_is)
    (case l17 => k_is)
    (case e17 => k_is)
    (case u17 => k_is)
    (case x18 => k_is)
    (case l18 => k_is)
    (case e18 => k_is)
    (case u18 => k_is)
    (case x19 => k_is)
    (case l19 => k_is)
    (case e19 => k_is)
    (case u19 => k_is)
    (case v19 => k_is)
    (case x20 => k_is)
    (case l20 => k_is)
    (case e20 => k_is)
    (case u20 => k_is)
    (case v20 => k_is)
    (case x21 => k_is)
    (case l21 => k_is)
    (case e21 => k_is)
    (case u21 => k_is)
    (case x22 => k_is)
    (case l22 => k_is)
    (case e22 => k_is)
    (case u22 => k_is)
    (case x23 => k_is)
    (case l23 => k_is)
    (case e23 => k_is)
    (case u23 => k_is)
    (case x24 => k_is)
    (case l24 => k_is)
    (case e24 => k_is)
    (case u24 => k_is)
    (case x25 => k_is)
    (case l25 => k_is)
    (case e25 => k_is)
    (case u25 => k_is)
    (case x26 => k_is)
    (case l26 => k_is)
    (case e26 => k_is)
    (case u26 => k_is)
    (case x27 => k_is)
    (case l27 => k_is)
    (case e27 => k_is)
    (case u27 => k_is)
    (case x28 => k_is)
    (case l28 => k_is)
    (case e28 => k_is)
    (case u28 => k_is)
    (case x29 => k_is)
    (case l29 => k_is)
    (case e29 => k_is)
    (case u29 => k_is)
    (case x30 => k_is)
    (case l30 => k_is)
    (case e30 => k_is)
    (case u30 => k_is)
    (case x31 => k_is)
    (case l31 => k_is)
    (case e31 => k_is)
    (case u31 => k_is)
    (case x32 => k_is)
    (case l32 => k_is)
    (case e32 => k_is)
    (case u32 => k_is)
    (case x33 => k_is)
    (case l33 => k_is)
    (case e33 => k_is)
    (case u33 => k_is)
    (case x34 => k_is)
    (case l34 => k_is)
    (case e34 => k_is)
    (case u34 => k_is)
    (case x35 => k_is)
    (case l35 => k_is)
    (case e35 => k_is)
    (case u35 => k_is)
    (case ghn => k_is)
    (case gtk => k_is)
    (case z_bool => k_is)
    (case z_enumerate => k_is)
    (case z_int => k_is)
    (case z_isinstance => k_is)
    (case z_len => k_is)
    (case z_list => k_is)
    (case z_max => k_is)
    (case z_min => k_is)
    (case z_range => k_is)
    (case z_set => k_is)
    (case z_sorted => k_is)
    (case z_tuple => k_is)
    (case w3_0 => k_is)
    (case w19_0 => k_is)
    (case w20_0 => k_is)
#print axioms PySem.Challenge.cw_firerest_k36_back_steps_holds
