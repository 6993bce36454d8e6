import PyProof.Rows.All
import Wide.All
import OpenK.AllK
import Wide.FinOn
import HandS.ForMost
import HandS.Evl
import HandS.Walk
import HandS.IsInst
import HandS.Deep
import HandS.TupLe
import HandS.Wide
import HandS.WideBits
import HandS.TupAny
import HandS.SortInts
import HandS.RevRange
import HandS.Codes
import HandS.OwnEq
import KE.GoesEnum
import KE.DataMinMax
import HandS.Zip
import HandS.TupSets
import HandS.Defaults
import KE.IntBitsLaws
import PySem.Challenge.RW_firerest_k05_one_beat
import KE.RegKIsAll
set_option Elab.async false
set_option linter.all false
set_option maxRecDepth 100000
set_option maxHeartbeats 4000000
/-! Z1: data as trees, how a tree lies in the abstract heap (owned lists, frozen things), and what growing keeps. -/
namespace Z
open PySem L2
open Evl (Ex ex_l ex_t ex_rd)

/-- own: one slot alone holds the list and may change it; fz: nothing changes it; ro: the same, and it may stand in the written part -/
inductive M where
  | own | fz | ro
  deriving DecidableEq
/-- data: m = true: a list (an object) that one slot alone holds and may change -/
inductive D where
  | non | bl (b : Bool) | int (i : Int) | str (x : Str)
  | lst (m : M) (ds : List D)
  | tup (ds : List D)
  | obj (m : Option Addr) (c : Nat) (ks : List Nat) (ds : List D)

structure Tab where
  K : PySem.W.Frag
  cl : Nat → Addr
  nm : List Str

section
variable (T : Tab) (Hf H : Hp)
mutual
/-- the tree d lies at v; the list: the addresses that are owned -/
def rep : D → V → List Addr → Prop
  | .non, v, F => v = .non ∧ F = []
  | .bl b, v, F => v = .bl b ∧ F = []
  | .int i, v, F => v = .int i ∧ F = []
  | .str x, v, F => v = .str x ∧ F = []
  | .lst .own ds, v, F => ∃ a xs G, v = .ref a ∧ F = a :: G ∧ H a = some (.lst xs) ∧ repS ds xs G
  | .lst .fz ds, v, F => ∃ a xs, v = .ref a ∧ F = [] ∧ Rd Hf a (.lst xs) ∧ repS ds xs []
  | .lst .ro ds, v, F => ∃ a xs, v = .ref a ∧ F = [] ∧ SqL T.K Hf a xs ∧ repS ds xs []
  | .tup ds, v, F => ∃ a xs, v = .ref a ∧ F = [] ∧ SqT T.K Hf a xs ∧ repS ds xs []
  | .obj (some a0) c ks ds, v, F => ∃ a dx fs, v = .ref a ∧ F = [a] ∧ (a = a0 ∧ H a = some (.ins (T.cl c) dx fs)) ∧ fs.map (fun p => some p.1) = ks.map (fun k => T.nm[k]?) ∧ repS ds (fs.map (·.2)) []
  | .obj none c ks ds, v, F => ∃ a dx fs, v = .ref a ∧ F = [] ∧ Hf a = some (.ins (T.cl c) dx fs) ∧ fs.map (fun p => some p.1) = ks.map (fun k => T.nm[k]?) ∧ repS ds (fs.map (·.2)) []
def repS : List D → List V → List Addr → Prop
  | [], xs, F => xs = [] ∧ F = []
  | d :: ds, xs, F => ∃ v vs F1 F2, xs = v :: vs ∧ F = F1 ++ F2 ∧ rep d v F1 ∧ repS ds vs F2
end
end

/-- nothing of it is owned -/
def D.fz : D → Bool
  | .lst .own _ => false
  | .obj (some _) _ _ _ => false
  | _ => true
theorem fz_nil {T : Tab} {Hf H : Hp} {d : D} {v : V} {F : List Addr} (h : rep T Hf H d v F) (z : d.fz = true) : F = [] := by
  cases d with
  | lst m ds => cases m with
    | own => cases z
    | fz => obtain ⟨a, xs, _, e, _⟩ := h; exact e
    | ro => obtain ⟨a, xs, _, e, _⟩ := h; exact e
  | obj m c ks ds => cases m with
    | some _ => cases z
    | none => obtain ⟨a, dx, fs, _, e, _⟩ := h; exact e
  | tup ds => obtain ⟨a, xs, _, e, _⟩ := h; exact e
  | _ => exact h.2

section
variable {T : Tab} {Hf H Hf' H' : Hp}
theorem ex_sqL {K : PySem.W.Frag} {a : Addr} {xs : List V} (e : Ex H H') (h : SqL K H a xs) : SqL K H' a xs := ex_l e h
theorem repS_nil {xs : List V} {F : List Addr} : repS T Hf H [] xs F ↔ xs = [] ∧ F = [] := Iff.rfl
mutual
theorem rep_mono (e1 : Ex Hf Hf') : ∀ (d : D) (v : V) (F : List Addr), (∀ a ∈ F, ∀ o, H a = some o → H' a = some o) → rep T Hf H d v F → rep T Hf' H' d v F
  | .non, _, _, _, h => h
  | .bl _, _, _, _, h => h
  | .int _, _, _, _, h => h
  | .str _, _, _, _, h => h
  | .lst .own ds, _, _, k, ⟨a, xs, G, e, f, q, r⟩ => ⟨a, xs, G, e, f, k a (by rw [f]; exact List.mem_cons_self) _ q, repS_mono e1 ds _ _ (fun b hb => k b (by rw [f]; exact List.mem_cons_of_mem _ hb)) r⟩
  | .lst .fz ds, _, _, _, ⟨a, xs, e, f, q, r⟩ => ⟨a, xs, e, f, ex_rd e1 q, repS_mono e1 ds _ _ (fun _ hb => by cases hb) r⟩
  | .lst .ro ds, _, _, _, ⟨a, xs, e, f, q, r⟩ => ⟨a, xs, e, f, ex_l e1 q, repS_mono e1 ds _ _ (fun _ hb => by cases hb) r⟩
  | .tup ds, _, _, _, ⟨a, xs, e, f, q, r⟩ => ⟨a, xs, e, f, ex_t e1 q, repS_mono e1 ds _ _ (fun _ hb => by cases hb) r⟩
  | .obj (some _) c ks ds, _, _, k, ⟨a, dx, fs, e, f, q, n, r⟩ => ⟨a, dx, fs, e, f, ⟨q.1, k a (by rw [f]; exact List.mem_cons_self) _ q.2⟩, n, repS_mono e1 ds _ _ (fun _ hb => by cases hb) r⟩
  | .obj none c ks ds, _, _, _, ⟨a, dx, fs, e, f, q, n, r⟩ => ⟨a, dx, fs, e, f, e1 _ _ q, n, repS_mono e1 ds _ _ (fun _ hb => by cases hb) r⟩
theorem repS_mono (e1 : Ex Hf Hf') : ∀ (ds : List D) (xs : List V) (F : List Addr), (∀ a ∈ F, ∀ o, H a = some o → H' a = some o) → repS T Hf H ds xs F → repS T Hf' H' ds xs F
  | [], _, _, _, h => h
  | d :: ds, _, _, k, ⟨v, vs, F1, F2, e, f, r, q⟩ => ⟨v, vs, F1, F2, e, f, rep_mono e1 d v F1 (fun a ha => k a (by rw [f]; exact List.mem_append_left _ ha)) r, repS_mono e1 ds vs F2 (fun a ha => k a (by rw [f]; exact List.mem_append_right _ ha)) q⟩
end
mutual
/-- what is owned stands -/
theorem rep_dom : ∀ (d : D) (v : V) (F : List Addr), rep T Hf H d v F → ∀ a ∈ F, ∃ o, H a = some o
  | .non, _, _, h, a, ha => by rw [h.2] at ha; cases ha
  | .bl _, _, _, h, a, ha => by rw [h.2] at ha; cases ha
  | .int _, _, _, h, a, ha => by rw [h.2] at ha; cases ha
  | .str _, _, _, h, a, ha => by rw [h.2] at ha; cases ha
  | .lst .own ds, _, _, ⟨b, xs, G, e, f, q, r⟩, a, ha => by
    rw [f] at ha
    rcases List.mem_cons.mp ha with rfl | ha
    · exact ⟨_, q⟩
    · exact repS_dom ds _ _ r a ha
  | .lst .fz ds, _, _, ⟨b, xs, e, f, q, r⟩, a, ha => by rw [f] at ha; cases ha
  | .lst .ro ds, _, _, ⟨b, xs, e, f, q, r⟩, a, ha => by rw [f] at ha; cases ha
  | .tup ds, _, _, ⟨b, xs, e, f, q, r⟩, a, ha => by rw [f] at ha; cases ha
  | .obj (some _) c ks ds, _, _, ⟨b, dx, fs, e, f, q, n, r⟩, a, ha => by
    rw [f] at ha
    rcases List.mem_cons.mp ha with rfl | ha
    · exact ⟨_, q.2⟩
    · cases ha
  | .obj none c ks ds, _, _, ⟨b, dx, fs, e, f, q, n, r⟩, a, ha => by rw [f] at ha; cases ha
theorem repS_dom : ∀ (ds : List D) (xs : List V) (F : List Addr), repS T Hf H ds xs F → ∀ a ∈ F, ∃ o, H a = some o
  | [], _, _, h, a, ha => by rw [h.2] at ha; cases ha
  | d :: ds, _, _, ⟨v, vs, F1, F2, e, f, r, q⟩, a, ha => by
    rw [f] at ha
    rcases List.mem_append.mp ha with ha | ha
    · exact rep_dom d v F1 r a ha
    · exact repS_dom ds vs F2 q a ha
end
theorem repS_len : ∀ {ds : List D} {xs : List V} {F : List Addr}, repS T Hf H ds xs F → xs.length = ds.length
  | [], _, _, h => by rw [h.1]; rfl
  | d :: ds, _, _, ⟨v, vs, F1, F2, e, f, r, q⟩ => by rw [e, List.length_cons, List.length_cons, repS_len q]
theorem repS_append : ∀ {ds es : List D} {xs ys : List V} {F G : List Addr}, repS T Hf H ds xs F → repS T Hf H es ys G → repS T Hf H (ds ++ es) (xs ++ ys) (F ++ G)
  | [], _, _, _, _, _, h, k => by obtain ⟨rfl, rfl⟩ := h; exact k
  | d :: ds, _, _, _, _, _, ⟨v, vs, F1, F2, e, f, r, q⟩, k => by
    subst e; subst f
    exact ⟨v, vs ++ _, F1, F2 ++ _, rfl, by rw [List.append_assoc], r, repS_append q k⟩
theorem repS_get : ∀ {ds : List D} {xs : List V} {F : List Addr} {i : Nat} {d : D}, repS T Hf H ds xs F → ds[i]? = some d → ∃ v G, xs[i]? = some v ∧ rep T Hf H d v G ∧ (∀ a ∈ G, a ∈ F)
  | [], _, _, i, d, _, e => by simp at e
  | d :: ds, _, _, 0, d', ⟨v, vs, F1, F2, e, f, r, q⟩, h => by
    subst e; subst f
    cases (Option.some.inj h : d = d')
    exact ⟨v, F1, rfl, r, fun a ha => List.mem_append_left _ ha⟩
  | d :: ds, _, _, i + 1, d', ⟨v, vs, F1, F2, e, f, r, q⟩, h => by
    subst e; subst f
    obtain ⟨w, G, h1, h2, h3⟩ := repS_get q (i := i) h
    exact ⟨w, G, h1, h2, fun a ha => List.mem_append_right _ (h3 a ha)⟩
/-- all frozen -/
def fzs (ds : List D) : Bool := ds.all D.fz
theorem fzs_nil : ∀ {ds : List D} {xs : List V} {F : List Addr}, repS T Hf H ds xs F → fzs ds = true → F = []
  | [], _, _, h, _ => h.2
  | d :: ds, _, _, ⟨v, vs, F1, F2, e, f, r, q⟩, z => by
    have z1 : d.fz = true ∧ fzs ds = true := by simpa [fzs] using z
    rw [f, fz_nil r z1.1, fzs_nil q z1.2]
    rfl
end
end Z

/-! Z2: growing heaps, the slots of a frame, freezing. -/
namespace Z
open PySem L2
open Evl (Ex ex_l ex_t ex_rd)

structure Gr (Hf H Hf' H' : Hp) : Prop where
  e : Ex H H'
  f : Ex Hf Hf'
  s : Ex Hf' H'
  n : ∀ a o, Hf' a = some o → Hf a = some o ∨ H a = none
theorem Gr.refl {Hf H : Hp} (h : Ex Hf H) : Gr Hf H Hf H := ⟨fun _ _ q => q, fun _ _ q => q, h, fun _ _ q => .inl q⟩
theorem none_back {H H' : Hp} {a : Addr} (e : Ex H H') (h : H' a = none) : H a = none := Evl.fresh_back e h
theorem Gr.trans {Hf H Hf1 H1 Hf2 H2 : Hp} (a : Gr Hf H Hf1 H1) (b : Gr Hf1 H1 Hf2 H2) : Gr Hf H Hf2 H2 :=
  ⟨fun x o q => b.e x o (a.e x o q), fun x o q => b.f x o (a.f x o q), b.s, fun x o q => by
    rcases b.n x o q with h | h
    · exact a.n x o h
    · exact .inr (none_back a.e h)⟩
/-- new addresses: not in H, not frozen in Hf' -/
structure New (H Hf' : Hp) (F : List Addr) : Prop where
  nd : F.Nodup
  h : ∀ a ∈ F, H a = none
  f : ∀ a ∈ F, Hf' a = none
theorem New.nil {H Hf' : Hp} : New H Hf' [] := ⟨List.nodup_nil, (fun _ h => (by cases h)), (fun _ h => (by cases h))⟩
theorem Gr.out {Hf H Hf' H' : Hp} (g : Gr Hf H Hf' H') {a : Addr} {o : HO} (h : H a = some o) (hf : Hf a = none) : Hf' a = none := by
  cases q : Hf' a with
  | none => rfl
  | some u =>
    rcases g.n a u q with z | z
    · rw [hf] at z; cases z
    · rw [h] at z; cases z
/-- what was new stays so -/
theorem New.grow {H Hf1 H1 Hf2 H2 : Hp} {F : List Addr} (n : New H Hf1 F) (g : Gr Hf1 H1 Hf2 H2) (d : ∀ a ∈ F, ∃ o, H1 a = some o) : New H Hf2 F :=
  ⟨n.nd, n.h, fun a ha => let ⟨_, q⟩ := d a ha; g.out q (n.f a ha)⟩
theorem New.append {Hf H Hf1 H1 Hf2 : Hp} {F G : List Addr} (e : Ex H H1) (n : New H Hf2 F) (d : ∀ a ∈ F, ∃ o, H1 a = some o) (m : New H1 Hf2 G) : New H Hf2 (F ++ G) :=
  ⟨List.nodup_append.mpr ⟨n.nd, m.nd, fun a ha b hb z => by
      subst z
      obtain ⟨o, q⟩ := d a ha
      rw [m.h a hb] at q; cases q⟩,
   fun a ha => (List.mem_append.mp ha).elim (n.h a) fun h => none_back e (m.h a h),
   fun a ha => (List.mem_append.mp ha).elim (n.f a) (m.f a)⟩

section
variable (T : Tab) (Hf H : Hp)
def repE : List (Option D) → L2.St → List Addr → Prop
  | [], σ, F => σ = [] ∧ F = []
  | none :: ρ, σ, F => ∃ w τ, σ = w :: τ ∧ repE ρ τ F
  | some d :: ρ, σ, F => ∃ v τ F1 F2, σ = some v :: τ ∧ F = F1 ++ F2 ∧ rep T Hf H d v F1 ∧ repE ρ τ F2
end
section
variable {T : Tab} {Hf H Hf' H' Hf0 H0 : Hp}
theorem repE_mono (e1 : Ex Hf Hf') : ∀ {ρ : List (Option D)} {σ : L2.St} {F : List Addr}, (∀ a ∈ F, ∀ o, H a = some o → H' a = some o) → repE T Hf H ρ σ F → repE T Hf' H' ρ σ F
  | [], _, _, _, h => h
  | none :: _, _, _, k, ⟨w, τ, e, q⟩ => ⟨w, τ, e, repE_mono e1 k q⟩
  | some d :: _, _, _, k, ⟨v, τ, F1, F2, e, f, r, q⟩ => ⟨v, τ, F1, F2, e, f, rep_mono e1 d v F1 (fun a ha => k a (by rw [f]; exact List.mem_append_left _ ha)) r, repE_mono e1 (fun a ha => k a (by rw [f]; exact List.mem_append_right _ ha)) q⟩
theorem repE_dom : ∀ {ρ : List (Option D)} {σ : L2.St} {F : List Addr}, repE T Hf H ρ σ F → ∀ a ∈ F, ∃ o, H a = some o
  | [], _, _, h, a, ha => by rw [h.2] at ha; cases ha
  | none :: _, _, _, ⟨w, τ, e, q⟩, a, ha => repE_dom q a ha
  | some d :: _, _, _, ⟨v, τ, F1, F2, e, f, r, q⟩, a, ha => by
    rw [f] at ha
    rcases List.mem_append.mp ha with ha | ha
    · exact rep_dom d v F1 r a ha
    · exact repE_dom q a ha
theorem repE_len : ∀ {ρ : List (Option D)} {σ : L2.St} {F : List Addr}, repE T Hf H ρ σ F → σ.length = ρ.length
  | [], _, _, h => by rw [h.1]; rfl
  | none :: _, _, _, ⟨w, τ, e, q⟩ => by rw [e, List.length_cons, List.length_cons, repE_len q]
  | some d :: _, _, _, ⟨v, τ, F1, F2, e, f, r, q⟩ => by rw [e, List.length_cons, List.length_cons, repE_len q]
theorem repE_get : ∀ {ρ : List (Option D)} {σ : L2.St} {F : List Addr} {i : Nat} {d : D}, repE T Hf H ρ σ F → ρ[i]? = some (some d) → ∃ v G A C, σ[i]? = some (some v) ∧ rep T Hf H d v G ∧ F = A ++ (G ++ C)
  | [], _, _, i, d, _, h => by simp at h
  | none :: _, _, _, 0, d, _, h => by simp at h
  | some d' :: _, _, _, 0, d, ⟨v, τ, F1, F2, e, f, r, q⟩, h => by
    cases (Option.some.inj (Option.some.inj h : some d' = some d) : d' = d)
    subst e
    exact ⟨v, F1, [], F2, rfl, r, f⟩
  | none :: _, _, _, i + 1, d, ⟨w, τ, e, q⟩, h => by
    subst e
    obtain ⟨v, G, A, C, h1, h2, h3⟩ := repE_get (i := i) q h
    exact ⟨v, G, A, C, h1, h2, h3⟩
  | some d' :: _, _, _, i + 1, d, ⟨v', τ, F1, F2, e, f, r, q⟩, h => by
    subst e
    obtain ⟨v, G, A, C, h1, h2, h3⟩ := repE_get (i := i) q h
    exact ⟨v, G, F1 ++ A, C, h1, h2, by rw [f, h3, List.append_assoc]⟩
/-- a slot is stored -/
theorem repE_set {d : D} {v : V} {G : List Addr} (r0 : rep T Hf H d v G) : ∀ {ρ : List (Option D)} {σ : L2.St} {F : List Addr} (i : Nat), repE T Hf H ρ σ F →
    ∃ A B C, F = A ++ (B ++ C) ∧ ((ρ.length ≤ i ∧ B = [] ∧ repE T Hf H (ρ.set i (some d)) (σ.set i (some v)) (A ++ C)) ∨ repE T Hf H (ρ.set i (some d)) (σ.set i (some v)) (A ++ (G ++ C)))
  | [], _, _, i, ⟨e, f⟩ => by subst e; subst f; exact ⟨[], [], [], rfl, .inl ⟨by simp, rfl, rfl, rfl⟩⟩
  | none :: _, _, F, 0, ⟨w, τ, e, q⟩ => by
    subst e
    exact ⟨[], [], F, rfl, .inr ⟨v, τ, G, F, rfl, rfl, r0, q⟩⟩
  | some d' :: _, _, _, 0, ⟨v', τ, F1, F2, e, f, r, q⟩ => by
    subst e; subst f
    exact ⟨[], F1, F2, rfl, .inr ⟨v, τ, G, F2, rfl, rfl, r0, q⟩⟩
  | none :: ρ, _, F, i + 1, ⟨w, τ, e, q⟩ => by
    subst e
    obtain ⟨A, B, C, h1, h2⟩ := repE_set r0 i q
    refine ⟨A, B, C, h1, ?_⟩
    rcases h2 with ⟨z, h2, h3⟩ | h2
    · exact .inl ⟨by rw [List.length_cons]; omega, h2, w, _, rfl, h3⟩
    · exact .inr ⟨w, _, rfl, h2⟩
  | some d' :: ρ, _, F, i + 1, ⟨v', τ, F1, F2, e, f, r, q⟩ => by
    subst e; subst f
    obtain ⟨A, B, C, h1, h2⟩ := repE_set r0 i q
    refine ⟨F1 ++ A, B, C, by rw [h1, List.append_assoc], ?_⟩
    rcases h2 with ⟨z, h2, h3⟩ | h2
    · exact .inl ⟨by rw [List.length_cons]; omega, h2, v', _, F1, A ++ C, rfl, by rw [List.append_assoc], r, h3⟩
    · exact .inr ⟨v', _, F1, A ++ (G ++ C), rfl, by rw [List.append_assoc], r, h2⟩

/-- a frame's slots at a point of a def whose entry had the heaps Hf0, H0 -/
structure StOk (T : Tab) (Hf0 H0 Hf H : Hp) (ρ : List (Option D)) (σ : L2.St) : Prop where
  gr : Gr Hf0 H0 Hf H
  own : ∃ F, repE T Hf H ρ σ F ∧ New H0 Hf F
theorem StOk.sub {ρ : List (Option D)} {σ : L2.St} (S : StOk T Hf0 H0 Hf H ρ σ) : Ex Hf H := S.gr.s
theorem StOk.grow {ρ : List (Option D)} {σ : L2.St} (S : StOk T Hf0 H0 Hf H ρ σ) (g : Gr Hf H Hf' H') : StOk T Hf0 H0 Hf' H' ρ σ := by
  obtain ⟨F, r, n⟩ := S.own
  exact ⟨S.gr.trans g, F, repE_mono g.f (fun a _ o q => g.e a o q) r, n.grow g (repE_dom r)⟩
/-- a value that was made behind H1 is stored -/
theorem StOk.set {ρ : List (Option D)} {σ : L2.St} {d : D} {v : V} {G : List Addr} (i : Nat) (S : StOk T Hf0 H0 Hf H ρ σ) (g : Gr Hf H Hf' H') (r : rep T Hf' H' d v G) (n : New H Hf' G) : StOk T Hf0 H0 Hf' H' (ρ.set i (some d)) (σ.set i (some v)) := by
  obtain ⟨F, q, m⟩ := (S.grow g).own
  obtain ⟨F', q', m'⟩ := S.own
  have hF : ∃ F, repE T Hf' H' ρ σ F ∧ New H0 Hf' F ∧ ∀ a ∈ F, ∃ o, H a = some o := ⟨F', repE_mono g.f (fun a _ o q => g.e a o q) q', m'.grow g (repE_dom q'), repE_dom q'⟩
  obtain ⟨F, q, m, dm⟩ := hF
  refine ⟨(S.grow g).gr, ?_⟩
  obtain ⟨A, B, C, e, h⟩ := repE_set r i q
  subst e
  rcases h with ⟨_, e, h⟩ | h
  · subst e
    exact ⟨A ++ C, h, m⟩
  · refine ⟨A ++ (G ++ C), h, ?_⟩
    have nd := m.nd
    rw [List.nodup_append, List.nodup_append] at nd
    obtain ⟨n1, ⟨_, n2, _⟩, n3⟩ := nd
    have dis : ∀ a ∈ G, ∀ b, b ∈ A ++ (B ++ C) → a ≠ b := fun a ha b hb z => by
      subst z
      obtain ⟨o, qo⟩ := dm a hb
      rw [n.h a ha] at qo; cases qo
    refine ⟨?_, fun a ha => ?_, fun a ha => ?_⟩
    · rw [List.nodup_append, List.nodup_append]
      refine ⟨n1, ⟨n.nd, n2, fun a ha b hb => dis a ha b (List.mem_append_right _ (List.mem_append_right _ hb))⟩, fun a ha b hb => ?_⟩
      rcases List.mem_append.mp hb with hb | hb
      · exact fun z => dis b hb a (List.mem_append_left _ ha) z.symm
      · exact n3 a ha b (List.mem_append_right _ hb)
    · rcases List.mem_append.mp ha with ha | ha
      · exact m.h a (List.mem_append_left _ ha)
      · rcases List.mem_append.mp ha with ha | ha
        · exact none_back S.gr.e (n.h a ha)
        · exact m.h a (List.mem_append_right _ (List.mem_append_right _ ha))
    · rcases List.mem_append.mp ha with ha | ha
      · exact m.f a (List.mem_append_left _ ha)
      · rcases List.mem_append.mp ha with ha | ha
        · exact n.f a ha
        · exact m.f a (List.mem_append_right _ (List.mem_append_right _ ha))

/-! ### freezing -/
mutual
def frz : D → D
  | .lst .ro ds => .lst .ro (frzS ds)
  | .lst .own ds => .lst .fz (frzS ds)
  | .lst .fz ds => .lst .fz (frzS ds)
  | .obj _ c ks ds => .obj none c ks ds
  | .non => .non
  | .bl b => .bl b
  | .int i => .int i
  | .str x => .str x
  | .tup ds => .tup ds
def frzS : List D → List D
  | [] => []
  | d :: ds => frz d :: frzS ds
end
theorem frzS_map : ∀ ds : List D, frzS ds = ds.map frz
  | [] => rfl
  | d :: ds => by rw [List.map_cons, ← frzS_map ds]; rfl
theorem frz_fz (d : D) : (frz d).fz = true := by
  cases d with
  | lst m ds => cases m <;> rfl
  | _ => rfl
mutual
theorem rep_frz (e : Ex Hf Hf') : ∀ (d : D) (v : V) (F : List Addr), (∀ a ∈ F, ∀ o, H a = some o → Hf' a = some o) → rep T Hf H d v F → rep T Hf' H (frz d) v []
  | .non, _, _, _, h => ⟨h.1, rfl⟩
  | .bl _, _, _, _, h => ⟨h.1, rfl⟩
  | .int _, _, _, _, h => ⟨h.1, rfl⟩
  | .str _, _, _, _, h => ⟨h.1, rfl⟩
  | .lst .own ds, _, _, k, ⟨a, xs, G, ev, f, q, r⟩ => ⟨a, xs, ev, rfl, .inl (k a (by rw [f]; exact List.mem_cons_self) _ q), repS_frz e ds _ _ (fun b hb => k b (by rw [f]; exact List.mem_cons_of_mem _ hb)) r⟩
  | .lst .ro ds, _, _, k, ⟨a, xs, ev, f, q, r⟩ => ⟨a, xs, ev, rfl, ex_l e q, repS_frz e ds _ _ (fun b hb => by cases hb) r⟩
  | .lst .fz ds, _, _, k, ⟨a, xs, ev, f, q, r⟩ => ⟨a, xs, ev, rfl, ex_rd e q, repS_frz e ds _ _ (fun b hb => by cases hb) r⟩
  | .tup ds, _, _, k, ⟨a, xs, ev, f, q, r⟩ => ⟨a, xs, ev, rfl, ex_t e q, repS_mono e ds _ _ (fun _ hb => by cases hb) r⟩
  | .obj (some _) c ks ds, _, _, k, ⟨a, dx, fs, ev, f, q, n, r⟩ => ⟨a, dx, fs, ev, rfl, k a (by rw [f]; exact List.mem_cons_self) _ q.2, n, repS_mono e ds _ _ (fun _ hb => by cases hb) r⟩
  | .obj none c ks ds, _, _, k, ⟨a, dx, fs, ev, f, q, n, r⟩ => ⟨a, dx, fs, ev, rfl, e _ _ q, n, repS_mono e ds _ _ (fun _ hb => by cases hb) r⟩
theorem repS_frz (e : Ex Hf Hf') : ∀ (ds : List D) (xs : List V) (F : List Addr), (∀ a ∈ F, ∀ o, H a = some o → Hf' a = some o) → repS T Hf H ds xs F → repS T Hf' H (frzS ds) xs []
  | [], _, _, _, h => ⟨h.1, rfl⟩
  | d :: ds, _, _, k, ⟨v, vs, F1, F2, ev, f, r, q⟩ => ⟨v, vs, [], [], ev, rfl, rep_frz e d v F1 (fun a ha => k a (by rw [f]; exact List.mem_append_left _ ha)) r, repS_frz e ds vs F2 (fun a ha => k a (by rw [f]; exact List.mem_append_right _ ha)) q⟩
end
/-- the frozen heap with the things at F -/
def plus (Hf H : Hp) (F : List Addr) : Hp := fun a => if a ∈ F then H a else Hf a
theorem plus_ex {F : List Addr} (n : ∀ a ∈ F, Hf a = none) : Ex Hf (plus Hf H F) := fun a o q => by
  unfold plus
  by_cases h : a ∈ F
  · rw [n a h] at q; cases q
  · rw [if_neg h]; exact q
theorem plus_in {F : List Addr} : ∀ a ∈ F, ∀ o, H a = some o → plus Hf H F a = some o := fun a ha o q => by
  unfold plus; rw [if_pos ha]; exact q
theorem plus_sub {F : List Addr} (e : Ex Hf H) : Ex (plus Hf H F) H := fun a o q => by
  unfold plus at q
  by_cases h : a ∈ F
  · rw [if_pos h] at q; exact q
  · rw [if_neg h] at q; exact e a o q
theorem plus_none {F : List Addr} {a : Addr} (h : a ∉ F) (e : Hf a = none) : plus Hf H F a = none := by
  unfold plus; rw [if_neg h]; exact e
/-- freezing what is new is growing -/
theorem plus_gr {Hf1 H1 : Hp} {F : List Addr} (g : Gr Hf1 H1 Hf H) (n : New H1 Hf F) : Gr Hf1 H1 (plus Hf H F) H :=
  ⟨g.e, fun a o q => plus_ex n.f a o (g.f a o q), plus_sub g.s, fun a o q => by
    unfold plus at q
    by_cases h : a ∈ F
    · exact .inr (n.h a h)
    · rw [if_neg h] at q; exact g.n a o q⟩
/-- a slot is frozen -/
def frzAt (ρ : List (Option D)) (i : Nat) : List (Option D) := match ρ[i]? with
  | some (some d) => ρ.set i (some (frz d))
  | _ => ρ
theorem StOk.frz {ρ : List (Option D)} {σ : L2.St} (S : StOk T Hf0 H0 Hf H ρ σ) (i : Nat) : ∃ Hf', Ex Hf Hf' ∧ StOk T Hf0 H0 Hf' H (frzAt ρ i) σ := by
  unfold frzAt
  split
  · rename_i d hd
    obtain ⟨F, q, m⟩ := S.own
    -- walk to the slot
    have go : ∀ {ρ : List (Option D)} {σ : L2.St} {F : List Addr} (i : Nat), ρ[i]? = some (some d) → repE T Hf H ρ σ F → ∃ A G C, F = A ++ (G ++ C) ∧ ∀ Hf2, Ex Hf Hf2 → (∀ a ∈ G, ∀ o, H a = some o → Hf2 a = some o) → repE T Hf2 H (ρ.set i (some (Z.frz d))) σ (A ++ C) := by
      intro ρ
      induction ρ with
      | nil => intro σ F i h; simp at h
      | cons w ρ ih =>
        intro σ F i h r
        cases i with
        | zero =>
          have e : w = some d := by simpa using h
          subst e
          obtain ⟨v, τ, F1, F2, e, f, r1, r2⟩ := r
          refine ⟨[], F1, F2, f, fun Hf2 e2 k => ⟨v, τ, [], F2, e, rfl, rep_frz e2 d v F1 k r1, repE_mono e2 (fun a _ o q => q) r2⟩⟩
        | succ i =>
          have h' : ρ[i]? = some (some d) := by simpa using h
          cases w with
          | none =>
            obtain ⟨u, τ, e, r2⟩ := r
            obtain ⟨A, G, C, e1, k⟩ := ih i h' r2
            exact ⟨A, G, C, e1, fun Hf2 e2 kk => ⟨u, τ, e, k Hf2 e2 kk⟩⟩
          | some d2 =>
            obtain ⟨v, τ, F1, F2, e, f, r1, r2⟩ := r
            obtain ⟨A, G, C, e1, k⟩ := ih i h' r2
            exact ⟨F1 ++ A, G, C, by rw [f, e1, List.append_assoc], fun Hf2 e2 kk => ⟨v, τ, F1, A ++ C, e, by rw [List.append_assoc], rep_mono e2 d2 v F1 (fun a _ o q => q) r1, k Hf2 e2 kk⟩⟩
    obtain ⟨A, G, C, e, k⟩ := go i hd q
    subst e
    have nG : ∀ a ∈ G, Hf a = none := fun a ha => m.f a (List.mem_append_right _ (List.mem_append_left _ ha))
    have nd := m.nd
    rw [List.nodup_append, List.nodup_append] at nd
    obtain ⟨n1, ⟨_, n2, n4⟩, n3⟩ := nd
    refine ⟨plus Hf H G, plus_ex nG, ⟨⟨S.gr.e, fun a o q => plus_ex nG a o (S.gr.f a o q), plus_sub S.gr.s, fun a o q => ?_⟩, A ++ C, k _ (plus_ex nG) plus_in, ?_, fun a ha => ?_, fun a ha => ?_⟩⟩
    · unfold plus at q
      by_cases h : a ∈ G
      · exact .inr (m.h a (List.mem_append_right _ (List.mem_append_left _ h)))
      · rw [if_neg h] at q; exact S.gr.n a o q
    · rw [List.nodup_append]
      exact ⟨n1, n2, fun a ha b hb => n3 a ha b (List.mem_append_right _ hb)⟩
    · rcases List.mem_append.mp ha with ha | ha
      · exact m.h a (List.mem_append_left _ ha)
      · exact m.h a (List.mem_append_right _ (List.mem_append_right _ ha))
    · rcases List.mem_append.mp ha with ha | ha
      · exact plus_none (fun hg => n3 a ha a (List.mem_append_left _ hg) rfl) (m.f a (List.mem_append_left _ ha))
      · exact plus_none (fun hg => n4 a hg a ha rfl) (m.f a (List.mem_append_right _ (List.mem_append_right _ ha)))
  · exact ⟨Hf, fun _ _ q => q, S⟩
def frzL (ρ : List (Option D)) : List Nat → List (Option D)
  | [] => ρ
  | i :: r => frzL (frzAt ρ i) r
theorem StOk.frzL {σ : L2.St} : ∀ {ρ : List (Option D)} {Hf : Hp} (is : List Nat), StOk T Hf0 H0 Hf H ρ σ → ∃ Hf', Ex Hf Hf' ∧ StOk T Hf0 H0 Hf' H (Z.frzL ρ is) σ
  | ρ, Hf, [], S => ⟨Hf, fun _ _ q => q, S⟩
  | ρ, Hf, i :: r, S => by
    obtain ⟨Hf1, e1, S1⟩ := S.frz i
    obtain ⟨Hf2, e2, S2⟩ := StOk.frzL r S1
    exact ⟨Hf2, fun a o q => e2 a o (e1 a o q), S2⟩
end
end Z

/-! Z3: a small language of expressions and statements over trees, and what it computes. -/
namespace Z
open PySem L2

/-- built-in functions that are asked of values -/
inductive Bn where
  | len | int | tuple | list | sorted | max1 | min1 | max2 | min2 | maxN | sum | abs | bitlen | bool | setsort | repr
  deriving DecidableEq
inductive Tg where
  | name (i : Nat)
  | tup (ts : List Tg)
/-- what isinstance is asked for -/
inductive Is where
  | int | bool | tuple | list | str | cls (c : Nat)
  deriving DecidableEq
mutual
inductive E where
  | slot (i : Nat)
  | con (d : D)
  | bin (op : Operator) (a b : E)
  | un (op : UnaryOp) (a : E)
  | cmp (op : CmpOp) (a b : E)
  | chain (op op' : CmpOp) (a b c : E)
  | and (a b : E)
  | or (a b : E)
  | not (a : E)
  | ite (c a b : E)
  | idx (a b : E)
  | sl (a lo hi : E)
  | skip
  | keep (a : E)
  | fld (a : E) (k : Nat)
  | tup (es : Es)
  | lst (es : Es)
  | call (f : Nat) (es : Es) (dd : List D)
  | meth (m : Nat) (a : E) (es : Es)
  | mk (c : Nat) (es : Es) (dd : List D)
  | blt (b : Bn) (es : Es)
  | isi (a : E) (k : Is)
  | lc (vs : List Nat) (elt : E) (tg : Tg) (it : It) (ifs : Es)
inductive Es where
  | nil
  | cons (e : E) (r : Es)
inductive It where
  | lst (e : E)
  | rng1 (e : E)
  | rng2 (a b : E)
  | down (a b c : E)
  | enum (e : E)
  | zip (a b : E)
end
mutual
inductive S where
  | asg (tg : Tg) (e : E)
  | fld (i k : Nat) (e : E)
  | sub (i : Nat) (ix e : E)
  | app (i : Nat) (e : E)
  | app2 (i : Nat) (ix e : E)
  | drop (e : E)
  | ite (c : E) (a b : Ss)
  | for_ (tg : Tg) (it : It) (b : Ss)
  | while_ (c : E) (b : Ss)
  | ret (e : E)
  | retN
  | pass
  | brk
  | cont
  | never
inductive Ss where
  | nil
  | cons (s : S) (r : Ss)
end

abbrev Rho := List (Option D)
/-- what an own class has a def for -/
inductive Sp1 where
  | bin (op : Operator) | cmp (op : CmpOp) | len | iter
/-- what the program's own things compute -/
structure Gd where
  call : Nat → List D → Option D
  meth : Nat → Nat → Option Nat
  new : Nat → List D → Option D
  wf : Nat
  spec : Nat → Sp1 → Option Nat
/-- an own class's def -/
def callS (G : Gd) (c : Nat) (s : Sp1) (ds : List D) : Option D := match G.spec c s with
  | some f => G.call f ds
  | none => none

def most : Nat := 100000
def mulOk (i j : Int) : Bool := (decide (-(2 ^ 64) < i) && decide (i < 2 ^ 64)) || (decide (-(2 ^ 64) < j) && decide (j < 2 ^ 64))
def shOk (i j : Int) : Bool := decide (0 ≤ j) && decide (j ≤ 1000000) && decide (i.natAbs < 2 ^ 64)
def binD : Operator → D → D → Option D
  | .Add, .int i, .int j => some (.int (i + j))
  | .Sub, .int i, .int j => some (.int (i - j))
  | .Mult, .int i, .int j => if mulOk i j || decide (i.natAbs.log2 + j.natAbs.log2 < 1000000) then some (.int (i * j)) else none
  | .FloorDiv, .int i, .int j => if decide (0 < j) && (decide (j < 1073741824) || decide (j.natAbs.log2 < 9000)) then some (.int (i / j)) else none
  | .Mod, .int i, .int j => if decide (0 < j) then some (.int (i % j)) else none
  | .Pow, .int i, .int j => if shOk i j then some (.int (i ^ j.toNat)) else none
  | .LShift, .int i, .int j => if shOk i j then some (.int (i * 2 ^ j.toNat)) else none
  | .RShift, .int i, .int j => if decide (0 ≤ j) then some (.int (i / 2 ^ j.toNat)) else none
  | .BitAnd, .int i, .int j => some (.int (Builtin.bitAnd i j))
  | .BitOr, .int i, .int j => some (.int (Builtin.bitOr i j))
  | .BitXor, .int i, .int j => some (.int (Builtin.bitXor i j))
  | .Add, .lst m ds, .lst m' es => if decide (m ≠ .ro) && decide (m' ≠ .ro) && fzs ds && fzs es && decide (ds.length + es.length ≤ most) then some (.lst .own (ds ++ es)) else none
  | .Mult, .lst .own ds, .int j => if fzs ds && decide (0 ≤ j) && decide (j ≤ most) && decide (ds.length * j.toNat ≤ most) then some (.lst .own ((List.replicate j.toNat ds).flatten)) else none
  | _, _, _ => none
def unD : UnaryOp → D → Option D
  | .USub, .int i => some (.int (-i))
  | .Invert, .int i => some (.int (Builtin.bitNot i))
  | _, _ => none
/-- scalars -/
def D.scal : D → Bool
  | .non => true | .bl _ => true | .int _ => true | .str _ => true
  | _ => false
/-- a value without things -/
def D.flat : D → Bool
  | .non => true | .bl _ => true | .int _ => true | .str _ => true
  | _ => false
def D.v : D → V
  | .bl b => .bl b | .int i => .int i | .str x => .str x
  | _ => .non
/-- what a parameter may have as its default -/
def D.dfl : D → Bool
  | .tup [] => true
  | .non => true | .bl _ => true | .int _ => true | .str _ => true
  | _ => false
mutual
def toPy : D → Option PyData
  | .non => some .none
  | .bl b => some (.bool b)
  | .int i => some (.int i)
  | .str x => some (.str x)
  | .lst _ ds => (toPyS ds).map .list
  | .tup ds => (toPyS ds).map .tuple
  | .obj _ _ _ _ => none
def toPyS : List D → Option (List PyData)
  | [] => some []
  | d :: ds => match toPy d, toPyS ds with
    | some p, some ps => some (p :: ps)
    | _, _ => none
end
/-- equality of data (no objects) -/
def eqD (x y : D) : Option Bool := match toPy x, toPy y with
  | some p, some q => if SeqAt.shaped p && SeqAt.shaped q then some (PyData.eqv p q) else none
  | _, _ => none
/-- membership -/
def inD (x : D) : D → Option Bool
  | .tup ds => if x.flat && ds.all D.flat then some (ds.any fun z => eqV z.v x.v) else none
  | .lst _ ds => match toPy x, toPyS ds with
    | some p, some ps => if SeqAt.shaped p && SeqAt.shaped (.list ps) then some (ps.any fun z => PyData.eqv z p) else none
    | _, _ => none
  | _ => none
def D.isN : D → Bool
  | .non => true
  | _ => false
def cmpD : CmpOp → D → D → Option Bool
  | .Lt, .int i, .int j => some (decide (i < j))
  | .LtE, .int i, .int j => some (decide (i ≤ j))
  | .Gt, .int i, .int j => some (decide (j < i))
  | .GtE, .int i, .int j => some (decide (j ≤ i))
  | .Eq, x, y => eqD x y
  | .NotEq, x, y => (eqD x y).map (!·)
  | .In, x, y => inD x y
  | .NotIn, x, y => (inD x y).map (!·)
  | .Is, x, .non => some x.isN
  | .IsNot, x, .non => some (!x.isN)
  | .Is, .bl a, .bl b => some (decide (a = b))
  | .IsNot, .bl a, .bl b => some (!decide (a = b))
  | _, _, _ => none
/-- truth -/
def truD : D → Option Bool
  | .non => some false
  | .bl b => some b
  | .int i => some (i != 0)
  | .lst _ ds => some (!ds.isEmpty)
  | .tup ds => some (!ds.isEmpty)
  | _ => none
def at? (ds : List D) (i : Int) : Option D := atI ds i
def sIxD (n d : Nat) (o : Option Int) : Nat := HT.sIx n d o
def intsOf : List D → Option (List Int)
  | [] => some []
  | .int i :: r => (intsOf r).map (i :: ·)
  | _ :: _ => none
def insI (i : Int) : List Int → List Int
  | [] => [i]
  | j :: r => if i ≤ j then i :: j :: r else j :: insI i r
def srtI : List Int → List Int
  | [] => []
  | i :: r => insI i (srtI r)
/-- pairs of intsOf, in order, each once -/
def pairsOf : List D → Option (List (Int × Int))
  | [] => some []
  | .tup [.int a, .int b] :: r => (pairsOf r).map ((a, b) :: ·)
  | _ :: _ => none
def plt (p q : Int × Int) : Bool := decide (p.1 < q.1) || (decide (p.1 = q.1) && decide (p.2 < q.2))
def insP (p : Int × Int) : List (Int × Int) → List (Int × Int)
  | [] => [p]
  | q :: r => if plt p q then p :: q :: r else if p = q then q :: r else q :: insP p r
def srtP : List (Int × Int) → List (Int × Int)
  | [] => []
  | p :: r => insP p (srtP r)
def dP (p : Int × Int) : D := .tup [.int p.1, .int p.2]
def maxI : List Int → Option Int
  | [] => none
  | [i] => some i
  | i :: r => (maxI r).map fun j => if j ≤ i then i else j
def minI : List Int → Option Int
  | [] => none
  | [i] => some i
  | i :: r => (minI r).map fun j => if i ≤ j then i else j
/-- the number of figures of |n| by two -/
def bitLen (n : Int) : Int := (Builtin.Int.intBits n : Nat)
def seqD : D → Option (List D)
  | .lst _ ds => some ds
  | .tup ds => some ds
  | _ => none
def seqI (x : D) : Option (List Int) := match seqD x with
  | some ds => intsOf ds
  | none => none
/-- a list alone (no tuple) -/
def lstI : D → Option (List Int)
  | .lst _ ds => intsOf ds
  | _ => none
def lenD : D → Option D
  | .lst _ ds => some (.int ds.length)
  | .tup ds => some (.int ds.length)
  | _ => none
def intD : D → Option D
  | .int i => some (.int i)
  | .bl b => some (.int (if b then 1 else 0))
  | _ => none
def boolD : D → Option D
  | .int i => some (.bl (i != 0))
  | .bl b => some (.bl b)
  | _ => none
def tupleD : D → Option D
  | .lst _ ds => if fzs ds then some (.tup ds) else none
  | .tup ds => some (.tup ds)
  | _ => none
def listD (x : D) : Option D := match seqD x with
  | some ds => if fzs ds then some (.lst .own ds) else none
  | none => none
def sortedD (x : D) : Option D := (lstI x).map fun is => .lst .own ((srtI is).map .int)
def max1D (x : D) : Option D := ((lstI x).bind maxI).map .int
def min1D (x : D) : Option D := ((lstI x).bind minI).map .int
def maxND (x : D) : Option D := (lstI x).map fun is => match maxI is with | some i => .int i | none => .non
def sumD (x : D) : Option D := (lstI x).map fun is => .int is.sum
def absD : D → Option D
  | .int i => some (.int (if i < 0 then -i else i))
  | _ => none
def bitlenD : D → Option D
  | .int i => some (.int (bitLen i))
  | _ => none
def setsortD (x : D) : Option D := match x with
  | .lst _ ds => (pairsOf ds).bind fun ps => if decide (ps.length < 64) && ps.all (fun p => decide (0 ≤ p.1) && decide (0 ≤ p.2)) then some (.lst .own ((srtP ps).map dP)) else none
  | _ => none
def max2D : D → D → Option D
  | .int i, .int j => some (.int (if j > i then j else i))
  | _, _ => none
def min2D : D → D → Option D
  | .int i, .int j => some (.int (if j < i then j else i))
  | _, _ => none
def one (g : D → Option D) : List D → Option D
  | [d] => g d
  | _ => none
def two2 (g : D → D → Option D) : List D → Option D
  | [d, e] => g d e
  | _ => none
def bltD : Bn → List D → Option D
  | .len => one lenD
  | .int => one intD
  | .bool => one boolD
  | .tuple => one tupleD
  | .list => one listD
  | .sorted => one sortedD
  | .max1 => one max1D
  | .min1 => one min1D
  | .maxN => one maxND
  | .sum => one sumD
  | .abs => one absD
  | .bitlen => one bitlenD
  | .setsort => one setsortD
  | .max2 => two2 max2D
  | .min2 => two2 min2D
  | .repr => fun _ => none
/-- the kinds of data -/
inductive Kd where
  | kn | kb | ki | ks | kl | kt
  deriving DecidableEq
def kdD : D → Option Kd
  | .non => some .kn
  | .bl _ => some .kb
  | .int _ => some .ki
  | .str _ => some .ks
  | .lst _ _ => some .kl
  | .tup _ => some .kt
  | .obj _ _ _ _ => none
def isK : Kd → Is → Option Bool
  | _, .cls _ => none
  | .ki, .int => some true
  | .kb, .int => some true
  | .kb, .bool => some true
  | .kl, .list => some true
  | .kt, .tuple => some true
  | .ks, .str => some true
  | _, _ => some false
def isiD : D → Is → Option Bool
  | .obj _ c _ _, .cls c' => if c = c' then some true else none
  | .obj _ _ _ _, _ => none
  | d, k => match kdD d with
    | some q => isK q k
    | none => none
def getF (k : Nat) : List Nat → List D → Option D
  | j :: ks, d :: ds => if j = k then some d else getF k ks ds
  | _, _ => none
def putK (k : Nat) (d : D) : List Nat → List D → Option (List Nat × List D)
  | [], [] => some ([k], [d])
  | j :: ks, e :: ds => if j = k then some (j :: ks, d :: ds) else (putK k d ks ds).map fun p => (j :: p.1, e :: p.2)
  | _, _ => none
mutual
def bindT : Tg → D → Rho → Option Rho
  | .name i, d, ρ => some (ρ.set i (some d))
  | .tup ts, .tup ds, ρ => bindTs ts ds ρ
  | .tup _, _, _ => none
def bindTs : List Tg → List D → Rho → Option Rho
  | [], [], ρ => some ρ
  | t :: ts, d :: ds, ρ => (bindT t d ρ).bind fun ρ' => bindTs ts ds ρ'
  | _, _, _ => none
end
def wipeR (ρ : Rho) : List Nat → Rho
  | [] => ρ
  | v :: vs => (wipeR ρ vs).set v none
/-- a comprehension's items -/
def compD (f : D → Option (Option D)) : List D → Option (List D)
  | [] => some []
  | d :: r => match f d, compD f r with
    | some (some x), some ys => some (x :: ys)
    | some none, some ys => some ys
    | _, _ => none
def rngD (lo : Int) : Nat → List D
  | 0 => []
  | n + 1 => .int lo :: rngD (lo + 1) n
def rngOk (a b : Int) : Bool := decide (-(2 ^ 62) ≤ a) && decide (a < 2 ^ 62) && decide (-(2 ^ 62) ≤ b) && decide (b < 2 ^ 62)
def enumD (i : Int) : List D → List D
  | [] => []
  | d :: r => .tup [.int i, d] :: enumD (i + 1) r
def zipD : List D → List D → List D
  | a :: r, b :: s => .tup [a, b] :: zipD r s
  | _, _ => []

/-- a part of a slice -/
def optI : E → Option (D × Bool) → Option (Option Int)
  | .skip, _ => some none
  | _, some (.int i, _) => some (some i)
  | _, _ => none

def blOf : Option D → Option Bool
  | some (.bl b) => some b
  | _ => none
def lnOf : Option D → Option D
  | some (.int n) => if decide (0 ≤ n) && decide (n < 2 ^ 63) then some (.int n) else none
  | _ => none
def binG (G : Gd) (op : Operator) (x y : D) : Option D := match x, y with
  | .obj none c ks ds, .obj none c' ks' ds' => if c = c' then callS G c (.bin op) [.obj none c ks ds, .obj none c' ks' ds'] else none
  | _, _ => binD op x y
def cmpG (G : Gd) (op : CmpOp) (x y : D) : Option Bool := match x, op, y with
  | .obj none c ks ds, .Eq, .obj none c' ks' ds' => if c = c' then blOf (callS G c (.cmp .Eq) [.obj none c ks ds, .obj none c' ks' ds']) else none
  | x, .In, .obj none c ks ds => if x.fz then blOf (callS G c (.cmp .In) [.obj none c ks ds, frz x]) else none
  | x, .NotIn, .obj none c ks ds => if x.fz then (blOf (callS G c (.cmp .In) [.obj none c ks ds, frz x])).map (!·) else none
  | x, op, y => cmpD op x y
def bltG (G : Gd) (b : Bn) (ds : List D) : Option D := match b, ds with
  | .len, [.obj none c ks fs] => lnOf (callS G c .len [.obj none c ks fs])
  | b, ds => bltD b ds
section
variable (G : Gd)
mutual
def ev : E → Rho → Option (D × Bool)
  | .slot i, ρ => match ρ[i]? with
    | some (some d) => some (d, d.fz)
    | _ => none
  | .con d, _ => if d.scal then some (d, true) else none
  | .bin op a b, ρ => match ev a ρ, ev b ρ with
    | some (x, _), some (y, _) => (binG G op x y).map (·, true)
    | _, _ => none
  | .un op a, ρ => match ev a ρ with
    | some (x, _) => (unD op x).map (·, true)
    | none => none
  | .cmp op a b, ρ => match ev a ρ, ev b ρ with
    | some (x, _), some (y, _) => (cmpG G op x y).map fun k => (.bl k, true)
    | _, _ => none
  | .chain op op' a b c, ρ => match ev a ρ, ev b ρ with
    | some (x, _), some (y, _) => match cmpD op x y with
      | some true => match ev c ρ with
        | some (z, _) => (cmpD op' y z).map fun k => (.bl k, true)
        | none => none
      | some false => some (.bl false, true)
      | none => none
    | _, _ => none
  | .and a b, ρ => match ev a ρ with
    | some (.bl true, _) => match ev b ρ with
      | some (.bl k, _) => some (.bl k, true)
      | _ => none
    | some (.bl false, _) => some (.bl false, true)
    | _ => none
  | .or a b, ρ => match ev a ρ with
    | some (.bl false, _) => match ev b ρ with
      | some (.bl k, _) => some (.bl k, true)
      | _ => none
    | some (.bl true, _) => some (.bl true, true)
    | _ => none
  | .not a, ρ => match ev a ρ with
    | some (.bl k, _) => some (.bl (!k), true)
    | _ => none
  | .ite c a b, ρ => match ev c ρ with
    | some (.bl true, _) => ev a ρ
    | some (.bl false, _) => ev b ρ
    | _ => none
  | .idx a b, ρ => match ev a ρ, ev b ρ with
    | some (x, _), some (.int i, _) => match seqD x with
      | some ds => (at? ds i).map fun d => (d, d.fz)
      | none => none
    | _, _ => none
  | .sl a lo hi, ρ => match ev a ρ, optI lo (ev lo ρ), optI hi (ev hi ρ) with
    | some (.lst _ ds, _), some l, some h => if fzs ds then
        some (.lst .own ((ds.drop (sIxD ds.length 0 l)).take (sIxD ds.length ds.length h - sIxD ds.length 0 l)), true) else none
    | some (.tup ds, _), some l, some h => some (.tup ((ds.drop (sIxD ds.length 0 l)).take (sIxD ds.length ds.length h - sIxD ds.length 0 l)), true)
    | _, _, _ => none
  | .skip, _ => none
  | .keep a, ρ => ev a ρ
  | .fld a k, ρ => match ev a ρ with
    | some (.obj _ _ ks ds, _) => (getF k ks ds).map fun d => (d, d.fz)
    | _ => none
  | .tup es, ρ => match evs es ρ with
    | some (ds, true) => if decide (ds.length ≤ most) then some (.tup (frzS ds), true) else none
    | _ => none
  | .lst es, ρ => match evs es ρ with
    | some (ds, true) => if decide (ds.length ≤ most) then some (.lst .own ds, true) else none
    | _ => none
  | .call f es dd, ρ => match evs es ρ with
    | some (ds, true) => if dd.all D.dfl then (G.call f (frzS ds ++ dd)).map (·, true) else none
    | _ => none
  | .meth m a es, ρ => match ev a ρ, evs es ρ with
    | some (.obj none c ks fs, _), some (ds, true) => match G.meth c m with
      | some f => (G.call f (.obj none c ks fs :: frzS ds)).map (·, true)
      | none => none
    | _, _ => none
  | .mk c es dd, ρ => match evs es ρ with
    | some (ds, true) => if dd.all D.dfl then (G.new c (frzS ds ++ dd)).map (·, true) else none
    | _ => none
  | .blt b es, ρ => match evs es ρ with
    | some (ds, _) => (bltG G b ds).map (·, true)
    | none => none
  | .isi a k, ρ => match ev a ρ with
    | some (x, _) => (isiD x k).map fun b => (.bl b, true)
    | none => none
  | .lc vs elt tg it ifs, ρ => match evI it ρ with
    | some items => if decide (items.length ≤ 40000) then
        (compD (fun d => match bindT tg d (wipeR ρ vs) with
          | some ρ' => match evT ifs ρ' with
            | some true => match ev elt ρ' with
              | some (x, true) => some (some x)
              | _ => none
            | some false => some none
            | none => none
          | none => none) items).map fun ds => (.lst .own ds, true)
        else none
    | none => none
def evs : Es → Rho → Option (List D × Bool)
  | .nil, _ => some ([], true)
  | .cons e r, ρ => match ev e ρ, evs r ρ with
    | some (d, f), some (ds, g) => some (d :: ds, f && g)
    | _, _ => none
/-- all of these tests hold -/
def evT : Es → Rho → Option Bool
  | .nil, _ => some true
  | .cons e r, ρ => match ev e ρ with
    | some (d, _) => match truD d with
      | some true => evT r ρ
      | some false => some false
      | none => none
    | none => none
def evI : It → Rho → Option (List D)
  | .lst e, ρ => match ev e ρ with
    | some (d, true) => seqD (frz d)
    | _ => none
  | .rng1 e, ρ => match ev e ρ with
    | some (.int j, _) => if rngOk 0 j then some (rngD 0 j.toNat) else none
    | _ => none
  | .rng2 a b, ρ => match ev a ρ, ev b ρ with
    | some (.int i, _), some (.int j, _) => if rngOk i j then some (rngD i (j - i).toNat) else none
    | _, _ => none
  | .down a b c, ρ => match ev a ρ, ev b ρ, ev c ρ with
    | some (.int i, _), some (.int j, _), some (.int l, _) => if rngOk i j && decide (l = -1) then some (rngD (j + 1) (i - j).toNat).reverse else none
    | _, _, _ => none
  | .enum e, ρ => match ev e ρ with
    | some (d, true) => (seqD (frz d)).map (enumD 0)
    | _ => none
  | .zip a b, ρ => match ev a ρ, ev b ρ with
    | some (x, true), some (y, true) => match seqD (frz x), seqD (frz y) with
      | some ds, some es => some (zipD ds es)
      | _, _ => none
    | _, _ => none
end
end
end Z

/-! Z4: statements. -/
namespace Z
open PySem L2
/-- the slot that a path of subscripts and fields begins at -/
def roots : E → List Nat
  | .slot i => [i]
  | .idx a _ => roots a
  | .fld a _ => roots a
  | .keep a => roots a
  | _ => []
mutual
/-- the slots whose things a value of the expression may keep hold of -/
def kept : E → List Nat
  | .slot i => [i]
  | .con _ => []
  | .skip => []
  | .keep a => roots a ++ kept a
  | .bin _ a b => peek a ++ peek b
  | .un _ a => peek a
  | .cmp _ a b => peek a ++ peek b
  | .chain _ _ a b c => peek a ++ (peek b ++ peek c)
  | .and a b => peek a ++ peek b
  | .or a b => peek a ++ peek b
  | .not a => peek a
  | .ite c a b => peek c ++ (kept a ++ kept b)
  | .idx a b => peek a ++ peek b
  | .sl a lo hi => peek a ++ (peek lo ++ peek hi)
  | .fld a _ => peek a
  | .tup es => keptS es
  | .lst es => keptS es
  | .call _ es _ => keptS es
  | .meth _ a es => kept a ++ keptS es
  | .mk _ es _ => keptS es
  | .blt _ es => peekS es
  | .isi a _ => peek a
  | .lc _ elt _ it ifs => keptI it ++ (kept elt ++ peekS ifs)
/-- the same where the value is looked at alone -/
def peek : E → List Nat
  | .slot _ => []
  | .con _ => []
  | .skip => []
  | .keep a => peek a
  | .bin _ a b => peek a ++ peek b
  | .un _ a => peek a
  | .cmp _ a b => peek a ++ peek b
  | .chain _ _ a b c => peek a ++ (peek b ++ peek c)
  | .and a b => peek a ++ peek b
  | .or a b => peek a ++ peek b
  | .not a => peek a
  | .ite c a b => peek c ++ (peek a ++ peek b)
  | .idx a b => peek a ++ peek b
  | .sl a lo hi => peek a ++ (peek lo ++ peek hi)
  | .fld a _ => peek a
  | .tup es => keptS es
  | .lst es => keptS es
  | .call _ es _ => keptS es
  | .meth _ a es => kept a ++ keptS es
  | .mk _ es _ => keptS es
  | .blt _ es => peekS es
  | .isi a _ => peek a
  | .lc _ elt _ it ifs => keptI it ++ (kept elt ++ peekS ifs)
def keptS : Es → List Nat
  | .nil => []
  | .cons e r => kept e ++ keptS r
def peekS : Es → List Nat
  | .nil => []
  | .cons e r => peek e ++ peekS r
def keptI : It → List Nat
  | .lst e => kept e
  | .rng1 e => peek e
  | .rng2 a b => peek a ++ peek b
  | .down a b c => peek a ++ (peek b ++ peek c)
  | .enum e => kept e
  | .zip a b => kept a ++ kept b
end
inductive Out where
  | nx (ρ : Rho)
  | rt (d : D)
  | bk (ρ : Rho)
  | ct (ρ : Rho)
def forD (bd : D → Rho → Option Rho) (body : Rho → Option Out) : List D → Rho → Option Out
  | [], ρ => some (.nx ρ)
  | d :: r, ρ => match bd d ρ with
    | some ρ1 => match body ρ1 with
      | some (.nx ρ2) => forD bd body r ρ2
      | some (.ct ρ2) => forD bd body r ρ2
      | some (.bk ρ2) => some (.nx ρ2)
      | some (.rt d) => some (.rt d)
      | none => none
    | none => none
def whileD (c : Rho → Option Bool) (body : Rho → Option Out) : Nat → Rho → Option Out
  | 0, _ => none
  | n + 1, ρ => match c ρ with
    | some true => match body ρ with
      | some (.nx ρ2) => whileD c body n ρ2
      | some (.ct ρ2) => whileD c body n ρ2
      | some (.bk ρ2) => some (.nx ρ2)
      | some (.rt d) => some (.rt d)
      | none => none
    | some false => some (.nx ρ)
    | none => none
/-- the truth of a test -/
def test (G : Gd) (c : E) (ρ : Rho) : Option Bool := match ev G c ρ with
  | some (d, _) => truD d
  | none => none
section
variable (G : Gd)
mutual
def run1 : S → Rho → Option Out
  | .asg tg e, ρ => match ev G e (frzL ρ (kept e)) with
    | some (d, true) => (bindT tg d (frzL ρ (kept e))).map .nx
    | _ => none
  | .fld i k e, ρ => match ev G e (frzL ρ (kept e)) with
    | some (d, true) => match (frzL ρ (kept e))[i]? with
      | some (some (.obj (some a) c ks ds)) => match putK k (frz d) ks ds with
        | some (ks', ds') => if decide (ds.length < 1000) then some (.nx ((frzL ρ (kept e)).set i (some (.obj (some a) c ks' ds')))) else none
        | none => none
      | _ => none
    | _ => none
  | .sub i ix e, ρ => match ev G e (frzL ρ (kept e ++ peek ix)), ev G ix (frzL ρ (kept e ++ peek ix)) with
    | some (d, true), some (.int j, _) => match (frzL ρ (kept e ++ peek ix))[i]? with
      | some (some (.lst .own ds)) => if fzs ds && d.fz && decide (0 ≤ j) && decide (j < ds.length) then some (.nx ((frzL ρ (kept e ++ peek ix)).set i (some (.lst .own (ds.set j.toNat d))))) else none
      | _ => none
    | _, _ => none
  | .app i e, ρ => match ev G e (frzL ρ (kept e)) with
    | some (d, true) => match (frzL ρ (kept e))[i]? with
      | some (some (.lst .own ds)) => if decide (ds.length < most) then some (.nx ((frzL ρ (kept e)).set i (some (.lst .own (ds ++ [d]))))) else none
      | _ => none
    | _ => none
  | .app2 i ix e, ρ => match ev G ix (frzL ρ (kept e ++ peek ix)), ev G e (frzL ρ (kept e ++ peek ix)) with
    | some (.int j, _), some (d, true) => match (frzL ρ (kept e ++ peek ix))[i]? with
      | some (some (.lst .own ds)) => match ds[j.toNat]? with
        | some (.lst .own es) => if d.fz && decide (0 ≤ j) && decide (es.length < most) then some (.nx ((frzL ρ (kept e ++ peek ix)).set i (some (.lst .own (ds.set j.toNat (.lst .own (es ++ [d]))))))) else none
        | _ => none
      | _ => none
    | _, _ => none
  | .drop e, ρ => match ev G e (frzL ρ (kept e)) with
    | some _ => some (.nx (frzL ρ (kept e)))
    | none => none
  | .ite c a b, ρ => match test G c (frzL ρ (peek c)) with
    | some true => runs a (frzL ρ (peek c))
    | some false => runs b (frzL ρ (peek c))
    | none => none
  | .for_ tg it b, ρ => match evI G it (frzL ρ (keptI it)) with
    | some items => forD (bindT tg) (runs b) items (frzL ρ (keptI it))
    | none => none
  | .while_ c b, ρ => whileD (test G c) (runs b) G.wf (frzL ρ (peek c))
  | .ret e, ρ => match ev G e (frzL ρ (kept e)) with
    | some (d, true) => some (.rt d)
    | _ => none
  | .retN, _ => some (.rt .non)
  | .pass, ρ => some (.nx ρ)
  | .brk, ρ => some (.bk ρ)
  | .cont, ρ => some (.ct ρ)
  | .never, _ => none
def runs : Ss → Rho → Option Out
  | .nil, ρ => some (.nx ρ)
  | .cons s r, ρ => match run1 s ρ with
    | some (.nx ρ') => runs r ρ'
    | o => o
end
end
/-- a def: n slots, the body -/
structure Def where
  ps : Nat
  n : Nat
  body : Ss
def startR (n : Nat) (ds : List D) : Rho := ds.map some ++ List.replicate (n - ds.length) none
def runD (G : Gd) (f : Def) (ds : List D) : Option D :=
  if ds.length = f.ps then match runs G f.body (startR f.n ds) with
    | some (.nx _) => some .non
    | some (.rt d) => some d
    | _ => none
  else none
example (G : Gd) (n : Int) : runD G ⟨1, 1, .cons (.ret (.bin .Add (.con (.int 1)) (.slot 0))) .nil⟩ [.int n] = some (.int (1 + n)) := rfl
end Z

/-! Z5: what the language says of an expression is so: names, operators, subscripts, displays. -/
namespace Z
open PySem PySem.Spec PyProof.Rows L2
open Evl (Ex ex_l ex_t ex_rd)

/-! ### the weakest readings -/
section
variable (X : Cx)
def tE (e : Expr) : TE := fun σ H Q => ∀ pins s, Inv X pins σ H s → wpAny (model X.prog X.w) X.A (eval e X.env) (EP X pins σ Q) X.xe s
def tT (e : Expr) : TT := fun σ H Q => ∀ pins s, Inv X pins σ H s → wpAny (model X.prog X.w) X.A (isTrue e X.env (eval e X.env)) (TP X pins σ Q) X.xe s
def tA (es : List Expr) : TA := fun σ H Q => ∀ pos pins s, Inv X pins σ H s → wpAny (model X.prog X.w) X.A (spliced (backTo pos (starEach es X.env))) (AP X pins σ Q) X.xe s
def tS (st : Stmt) : TS := fun D σ H => ∀ pins s, Inv X pins σ H s → wpAny (model X.prog X.w) X.A (exec st X.env) (SP X pins D) X.xe s
def tSs (st : List Stmt) : TS := fun D σ H => ∀ pins s, Inv X pins σ H s → wpAny (model X.prog X.w) X.A (execs st X.env) (SP X pins D) X.xe s
def tG (tg : Expr) : L2.TG := fun v σ H Q => ∀ pins s u, Inv X pins σ H s → RelV v u → wpAny (model X.prog X.w) X.A (assign tg X.env u) (fun _ s' => ∃ σ' H', Inv X pins σ' H' s' ∧ Q σ' H') X.xe s
end
section
variable {X : Cx}
theorem pe_ (e : Expr) : PE X e (tE X e) := ⟨fun pins s _ _ _ I h => h pins s I⟩
theorem pt_ (e : Expr) : PT X e (tT X e) := ⟨fun pins s _ _ _ I h => h pins s I⟩
theorem pa_ (es : List Expr) : PA X es (tA X es) := ⟨fun pos pins s _ _ _ I h => h pos pins s I⟩
theorem ps_ (st : Stmt) : PS X st (tS X st) := ⟨fun pins s _ _ _ I h => h pins s I⟩
theorem pss_ (st : List Stmt) : PSs X st (tSs X st) := ⟨fun pins s _ _ _ I h => h pins s I⟩
theorem pg_ (tg : Expr) : PG X tg (tG X tg) := ⟨fun pins s _ _ _ _ _ I r h => h pins s _ I r⟩
theorem by_pe {e : Expr} {t : TE} {σ : L2.St} {H : Hp} {Q : VK} (p : PE X e t) (h : t σ H Q) : tE X e σ H Q := fun pins s I => p.run pins s σ H Q I h
theorem by_pt {e : Expr} {t : TT} {σ : L2.St} {H : Hp} {Q : Bool → Hp → Prop} (p : PT X e t) (h : t σ H Q) : tT X e σ H Q := fun pins s I => p.run pins s σ H Q I h
theorem by_pa {e : List Expr} {t : TA} {σ : L2.St} {H : Hp} {Q : List V → Hp → Prop} (p : PA X e t) (h : t σ H Q) : tA X e σ H Q := fun pos pins s I => p.run pos pins s σ H Q I h
theorem by_ps {e : Stmt} {t : TS} {σ : L2.St} {H : Hp} {D : Ends} (p : PS X e t) (h : t D σ H) : tS X e D σ H := fun pins s I => p.run pins s σ H D I h
theorem by_pss {e : List Stmt} {t : TS} {σ : L2.St} {H : Hp} {D : Ends} (p : PSs X e t) (h : t D σ H) : tSs X e D σ H := fun pins s I => p.run pins s σ H D I h
theorem by_pg {e : Expr} {t : L2.TG} {v : V} {σ : L2.St} {H : Hp} {Q : L2.St → Hp → Prop} (p : PG X e t) (h : t v σ H Q) : tG X e v σ H Q := fun pins s u I r => p.run pins s σ H v u Q I r h
theorem tE_mono {e : Expr} {σ : L2.St} {H : Hp} {Q Q' : VK} (h : tE X e σ H Q) (k : ∀ v H', Q v H' → Q' v H') : tE X e σ H Q' := fun pins s I =>
  thn (h pins s I) fun u s1 ⟨v, H1, I1, r, q⟩ => ⟨v, H1, I1, r, k v H1 q⟩
end

/-! ### the context -/
/-- what is fixed for a whole law -/
structure Law where
  P : Program
  w : World
  base : Heap
  mg : Str → Option Value
  T : Tab
  G : Gd
/-- a scope, and the names whose cells the block made itself -/
structure Sc extends Scope where
  fnb : Str → Bool
  /-- in an except suite: what wants no exception in hand isn't there -/
  hot : Bool := false
/-- the context X of a body: the law's, the names by slot, the scope, the room for calls -/
structure Cok (L : Law) (N : List Str) (sc : Sc) (k : Nat) (X : Cx) : Prop where
  prog : X.prog = L.P
  hw : X.w = L.w
  hbase : X.base = L.base
  hmg : X.mg = L.mg
  hK : X.K = L.T.K
  hN : X.N = N
  hsc : X.env.scope = sc.toScope
  fn : ∀ x, sc.fnb x = true → X.fn x = true
  nd : N.Nodup
  calm : sc.hot = false → X.calm = true
  room : Room k X.A
  xe : X.xe = fun _ _ => False
theorem Cok.units {L : Law} {N : List Str} {sc : Sc} {k : Nat} {X : Cx} (c : Cok L N sc k X) : X.A.units + 64 < cLine := c.room.units

/-- what behind a value is known -/
def Post (T : Tab) (Hf H : Hp) (d : D) (fr : Bool) (Q : VK) : Prop := ∀ v H' Hf' F, Gr Hf H Hf' H' → rep T Hf' H' d v F → (fr = true → New H Hf' F) → Q v H'
def SemE (L : Law) (N : List Str) (sc : Sc) (k : Nat) (e : Expr) (e' : E) : Prop :=
  ∀ X, Cok L N sc k X → ∀ ρ d fr, ev L.G e' ρ = some (d, fr) → ∀ Hf0 H0 Hf H σ, StOk L.T Hf0 H0 Hf H ρ σ → ∀ Q : VK, Post L.T Hf H d fr Q → tE X e σ H Q
def PostA (T : Tab) (Hf H : Hp) (ds : List D) (fr : Bool) (Q : List V → Hp → Prop) : Prop := ∀ vs H' Hf' F, Gr Hf H Hf' H' → repS T Hf' H' ds vs F → (fr = true → New H Hf' F) → Q vs H'
def SemA (L : Law) (N : List Str) (sc : Sc) (k : Nat) (es : List Expr) (es' : Es) : Prop :=
  ∀ X, Cok L N sc k X → ∀ ρ ds fr, evs L.G es' ρ = some (ds, fr) → ∀ Hf0 H0 Hf H σ, StOk L.T Hf0 H0 Hf H ρ σ → ∀ Q, PostA L.T Hf H ds fr Q → tA X es σ H Q

section
variable {T : Tab} {Hf H Hf' H' : Hp}
theorem Gr.sub' {Hf0 H0 : Hp} {ρ : Rho} {σ : L2.St} (S : StOk T Hf0 H0 Hf H ρ σ) : Gr Hf H Hf H := Gr.refl S.sub
theorem rep_flat {d : D} (h : d.flat = true) : rep T Hf H d d.v [] := by
  cases d <;> first | exact ⟨rfl, rfl⟩ | cases h
/-- a flat answer at once -/
theorem Post.flat {d : D} {fr : Bool} {Q : VK} (p : Post T Hf H d fr Q) (g : Gr Hf H Hf' H') (h : d.flat = true) : Q d.v H' := p _ _ _ [] g (rep_flat h) fun _ => New.nil
theorem New.upd {p : Addr} (hp : H p = none) {Hf : Hp} (hf : Hf p = none) : New H Hf [p] := ⟨List.nodup_cons.mpr ⟨by simp, List.nodup_nil⟩, fun a h => by
  cases List.mem_singleton.mp h; exact hp, fun a h => by cases List.mem_singleton.mp h; exact hf⟩
/-- a new owned thing at p -/
theorem Gr.push {p : Addr} {o : HO} (s : Ex Hf H) (hp : H p = none) : Gr Hf H Hf (upd H p o) :=
  ⟨Evl.Ex.new hp, fun _ _ q => q, fun a u q => by rw [upd_ne (ne_of_none (s a u q) hp)]; exact s a u q, fun _ _ q => .inl q⟩
/-- a new frozen thing at p -/
theorem Gr.pushF {p : Addr} {o : HO} (s : Ex Hf H) (hp : H p = none) : Gr Hf H (upd Hf p o) (upd H p o) :=
  ⟨Evl.Ex.new hp, Evl.Ex.new (none_back s hp), fun a u q => by
    by_cases h : a = p
    · subst h; rw [upd_same] at q ⊢; exact q
    · rw [upd_ne h] at q ⊢; exact s a u q, fun a u q => by
    by_cases h : a = p
    · subst h; exact .inr hp
    · rw [upd_ne h] at q; exact .inl q⟩
theorem hf_none (s : Ex Hf H) {p : Addr} (hp : H p = none) : Hf p = none := none_back s hp
/-- how a list, a tuple is read -/
theorem rep_lst {m : M} {ds : List D} {v : V} {F : List Addr} (s : Ex Hf H) (h : rep T Hf H (.lst m ds) v F) : ∃ a xs G, v = .ref a ∧ SqL T.K H a xs ∧ repS T Hf H ds xs G := by
  cases m with
  | own => obtain ⟨a, xs, G, e, f, q, r⟩ := h; exact ⟨a, xs, G, e, .of q, r⟩
  | fz => obtain ⟨a, xs, e, f, q, r⟩ := h; exact ⟨a, xs, _, e, .inl (ex_rd s q), r⟩
  | ro => obtain ⟨a, xs, e, f, q, r⟩ := h; exact ⟨a, xs, _, e, ex_l s q, r⟩
theorem rep_rd {m : M} {ds : List D} {v : V} {F : List Addr} (s : Ex Hf H) (h : rep T Hf H (.lst m ds) v F) (hm : m ≠ .ro) : ∃ a xs G, v = .ref a ∧ Rd H a (.lst xs) ∧ repS T Hf H ds xs G := by
  cases m with
  | own => obtain ⟨a, xs, G, e, f, q, r⟩ := h; exact ⟨a, xs, G, e, .of q, r⟩
  | fz => obtain ⟨a, xs, e, f, q, r⟩ := h; exact ⟨a, xs, _, e, ex_rd s q, r⟩
  | ro => exact absurd rfl hm
theorem rep_tup {ds : List D} {v : V} {F : List Addr} (s : Ex Hf H) (h : rep T Hf H (.tup ds) v F) : ∃ a xs, v = .ref a ∧ SqT T.K H a xs ∧ repS T Hf H ds xs [] := by
  obtain ⟨a, xs, e, f, q, r⟩ := h; exact ⟨a, xs, e, ex_t s q, r⟩
theorem rep_seq {x : D} {ds : List D} {v : V} {F : List Addr} (s : Ex Hf H) (h : rep T Hf H x v F) (e : seqD x = some ds) : ∃ a xs G, v = .ref a ∧ (SqL T.K H a xs ∨ SqT T.K H a xs) ∧ repS T Hf H ds xs G := by
  cases x with
  | lst m es => cases e; obtain ⟨a, xs, G, e1, q, r⟩ := rep_lst s h; exact ⟨a, xs, G, e1, .inl q, r⟩
  | tup es => cases e; obtain ⟨a, xs, e1, q, r⟩ := rep_tup s h; exact ⟨a, xs, _, e1, .inr q, r⟩
  | _ => cases e
theorem repS_fz {ds : List D} {xs : List V} {F : List Addr} (h : repS T Hf H ds xs F) (z : fzs ds = true) : repS T Hf H ds xs [] := by
  have e := fzs_nil h z
  subst e
  exact h
theorem size_ok {n : Nat} (h : n ≤ most) : n ≤ sizeLine := Evl.sz_of h
end

section
variable {L : Law} {N : List Str} {sc : Sc} {k : Nat}
/-! ### names, constants -/
theorem sem_slot {i : Nat} {x : Str} {pos : Pos} (hN : N[i]? = some x) (hv : Vis sc.toScope x) (hd : (x == ("__debug__" : Str)) = false) (hcd : (x == ("__classdict__" : Str)) = false) : SemE L N sc k (.Name x pos) (.slot i) := by
  intro X c ρ d fr h Hf0 H0 Hf H σ S Q p
  simp only [ev] at h
  split at h
  · rename_i d' hd'
    cases h
    obtain ⟨F, r, n⟩ := S.own
    obtain ⟨v, G, A, C, h1, h2, h3⟩ := repE_get r hd'
    refine by_pe (pe_var (i := i) (by rw [c.hN]; exact hN) (by rw [c.hsc]; exact hv) hd hcd) ⟨v, h1, p v H Hf G (.refl S.sub) h2 fun z => ?_⟩
    rw [fz_nil h2 z]
    exact New.nil
  · cases h
theorem sem_int {i : Int} {j : Nat} {pos : Pos} : SemE L N sc k (.Constant (.int i) j pos) (.con (.int i)) := by
  intro X c ρ d fr h Hf0 H0 Hf H σ S Q p
  cases h
  exact by_pe pe_int (p.flat (.refl S.sub) rfl)
theorem sem_bl {b : Bool} {j : Nat} {pos : Pos} : SemE L N sc k (.Constant (.bool b) j pos) (.con (.bl b)) := by
  intro X c ρ d fr h Hf0 H0 Hf H σ S Q p
  cases h
  exact by_pe pe_bl (p.flat (.refl S.sub) rfl)
theorem sem_non {j : Nat} {pos : Pos} : SemE L N sc k (.Constant .none j pos) (.con .non) := by
  intro X c ρ d fr h Hf0 H0 Hf H σ S Q p
  cases h
  exact by_pe pe_non (p.flat (.refl S.sub) rfl)
theorem sem_str {x : Str} {j : Nat} {pos : Pos} : SemE L N sc k (.Constant (.str x) j pos) (.con (.str x)) := by
  intro X c ρ d fr h Hf0 H0 Hf H σ S Q p
  cases h
  exact by_pe pe_str (p.flat (.refl S.sub) rfl)

/-! ### two values -/
/-- an operator that does on trees what f says -/
def OpT (L : Law) (k : Nat) (f : Value → Value → Sem Value) (g : D → D → Option D) : Prop := ∀ X N sc, Cok L N sc k X → ∀ (pins : List (Addr × Obj)) (s : Shared) (σ : L2.St) (Hf H : Hp) (x y : V) (v u : Value) (d1 d2 d : D) (F1 F2 : List Addr) (Q : VK),
  Inv X pins σ H s → RelV x v → RelV y u → Ex Hf H → rep L.T Hf H d1 x F1 → rep L.T Hf H d2 y F2 → g d1 d2 = some d → Post L.T Hf H d true Q → wpAny (model X.prog X.w) X.A (f v u) (EP X pins σ Q) X.xe s
theorem two {a b : Expr} {a' b' : E} (ha : SemE L N sc k a a') (hb : SemE L N sc k b b') {X : Cx} (c : Cok L N sc k X) {ρ : Rho} {x y : D} {f1 f2 : Bool} (h1 : ev L.G a' ρ = some (x, f1)) (h2 : ev L.G b' ρ = some (y, f2))
    {Hf0 H0 Hf H : Hp} {σ : L2.St} (S : StOk L.T Hf0 H0 Hf H ρ σ) {R : V → V → Hp → Prop}
    (q : ∀ v u H' Hf' F1 F2, Gr Hf H Hf' H' → rep L.T Hf' H' x v F1 → rep L.T Hf' H' y u F2 → R v u H') : tE X a σ H fun v H1 => tE X b σ H1 fun u H2 => R v u H2 :=
  ha X c ρ x f1 h1 Hf0 H0 Hf H σ S _ fun v H1 Hf1 F1 g1 r1 n1 => hb X c ρ y f2 h2 Hf0 H0 Hf1 H1 σ (S.grow g1) _ fun u H2 Hf2 F2 g2 r2 n2 =>
    q v u H2 Hf2 F1 F2 (g1.trans g2) (rep_mono g2.f _ _ _ (fun a _ o z => g2.e a o z) r1) r2
theorem OpT.r {f : Value → Value → Sem Value} {g : D → D → Option D} (o : OpT L k f g) {X : Cx} (c : Cok L N sc k X) :
    OpR X f fun x y H Q => ∃ Hf d1 d2 d F1 F2, Ex Hf H ∧ rep L.T Hf H d1 x F1 ∧ rep L.T Hf H d2 y F2 ∧ g d1 d2 = some d ∧ Post L.T Hf H d true Q := by
  intro pins s σ H x y v u Q I rx ry ⟨Hf, d1, d2, d, F1, F2, e, r1, r2, hg, p⟩
  exact o X N sc c pins s σ Hf H x y v u d1 d2 d F1 F2 Q I rx ry e r1 r2 hg p
theorem post_grow {Hf H Hf' H' : Hp} {d : D} {fr : Bool} {Q : VK} {T : Tab} (p : Post T Hf H d fr Q) (g : Gr Hf H Hf' H') (n : fr = true → ∀ F Hf2, New H' Hf2 F → New H Hf2 F) : Post T Hf' H' d fr Q :=
  fun v H2 Hf2 F g2 r m => p v H2 Hf2 F (g.trans g2) r fun z => n z F Hf2 (m z)
theorem New.back {H H' Hf : Hp} {F : List Addr} (e : Ex H H') (n : New H' Hf F) : New H Hf F := ⟨n.nd, fun a h => none_back e (n.h a h), n.f⟩
theorem Post.grow {Hf H Hf' H' : Hp} {d : D} {fr : Bool} {Q : VK} {T : Tab} (p : Post T Hf H d fr Q) (g : Gr Hf H Hf' H') : Post T Hf' H' d fr Q := post_grow p g fun _ F Hf2 n => n.back g.e
theorem sem_bin {a b : Expr} {a' b' : E} {op : Operator} {pos : Pos} (o : OpT L k (binaryOp op) (binG L.G op)) (ha : SemE L N sc k a a') (hb : SemE L N sc k b b') : SemE L N sc k (.BinOp a op b pos) (.bin op a' b') := by
  intro X c ρ d fr h Hf0 H0 Hf H σ S Q p
  simp only [ev] at h
  split at h
  · rename_i x f1 y f2 e1 e2
    cases hd : binG L.G op x y with
    | none => rw [hd] at h; cases h
    | some d' =>
      rw [hd] at h
      cases h
      exact by_pe (pe_op (o.r c) (pe_ a) (pe_ b)) (two ha hb c e1 e2 S fun v u H' Hf' F1 F2 g r1 r2 => ⟨Hf', x, y, _, F1, F2, g.s, r1, r2, hd, p.grow g⟩)
  · cases h
/-- a comparison of trees -/
def cmpB (op : CmpOp) (x y : D) : Option D := (cmpD op x y).map .bl
def cmpBG (G : Gd) (op : CmpOp) (x y : D) : Option D := (cmpG G op x y).map .bl
theorem sem_cmp {a b : Expr} {a' b' : E} {op : CmpOp} {pos : Pos} (o : OpT L k (compareOp op) (cmpBG L.G op)) (hm : behindInMarks op b = false) (ha : SemE L N sc k a a') (hb : SemE L N sc k b b') : SemE L N sc k (.Compare a [op] [b] pos) (.cmp op a' b') := by
  intro X c ρ d fr h Hf0 H0 Hf H σ S Q p
  simp only [ev] at h
  split at h
  · rename_i x f1 y f2 e1 e2
    cases hd : cmpG L.G op x y with
    | none => rw [hd] at h; cases h
    | some d' =>
      rw [hd] at h
      cases h
      exact by_pe (pe_cmpR (o.r c) (pe_ a) (pe_ b) hm) (two ha hb c e1 e2 S fun v u H' Hf' F1 F2 g r1 r2 => ⟨Hf', x, y, _, F1, F2, g.s, r1, r2, by unfold cmpBG; rw [hd]; rfl, p.grow g⟩)
  · cases h
theorem rep_bl {T : Tab} {Hf H : Hp} {b : Bool} {v : V} {F : List Addr} (h : rep T Hf H (.bl b) v F) : v = .bl b := h.1
theorem sem_chain {a b e : Expr} {a' b' e' : E} {op op' : CmpOp} {pos : Pos} (o : OpT L k (compareOp op) (cmpB op)) (o' : OpT L k (compareOp op') (cmpB op')) (hm : lastMarks [op, op'] [b, e] = false) (ha : SemE L N sc k a a') (hb : SemE L N sc k b b') (hc : SemE L N sc k e e') :
    SemE L N sc k (.Compare a [op, op'] [b, e] pos) (.chain op op' a' b' e') := by
  intro X c ρ d fr h Hf0 H0 Hf H σ S Q p
  simp only [ev] at h
  split at h
  · rename_i x f1 y f2 e1 e2
    refine by_pe (pe_chain (o.r c) (o'.r c) (pe_ a) (pe_ b) (pe_ e) hm) (two ha hb c e1 e2 S fun v u H' Hf' F1 F2 g r1 r2 => ?_)
    split at h
    · rename_i hd
      split at h
      · rename_i z f3 e3
        cases hd2 : cmpD op' y z with
        | none => rw [hd2] at h; cases h
        | some k2 =>
          rw [hd2] at h
          cases h
          refine ⟨Hf', x, y, .bl true, F1, F2, g.s, r1, r2, by unfold cmpB; rw [hd]; rfl, fun v1 H1 Hf1 F3 g1 r3 _ => ⟨true, rep_bl r3, ?_⟩⟩
          rw [if_pos rfl]
          exact hc X c ρ z f3 e3 Hf0 H0 Hf1 H1 σ ((S.grow g).grow g1) _ fun w H2 Hf2 F4 g2 r4 _ =>
            ⟨Hf2, y, z, _, F2, F4, g2.s, rep_mono (g1.trans g2).f _ _ _ (fun a _ o q => (g1.trans g2).e a o q) r2, r4, by unfold cmpB; rw [hd2]; rfl, (p.grow g).grow (g1.trans g2)⟩
      · cases h
    · rename_i hd
      cases h
      refine ⟨Hf', x, y, .bl false, F1, F2, g.s, r1, r2, by unfold cmpB; rw [hd]; rfl, fun v1 H1 Hf1 F3 g1 r3 _ => ⟨false, rep_bl r3, ?_⟩⟩
      rw [if_neg Bool.false_ne_true]
      exact p.flat (g.trans g1) rfl
    · cases h
  · cases h
theorem sem_un {a : Expr} {a' : E} {op : UnaryOp} {pos : Pos} (hop : op = .USub ∨ op = .Invert) (ha : SemE L N sc k a a') : SemE L N sc k (.UnaryOp op a pos) (.un op a') := by
  intro X c ρ d fr h Hf0 H0 Hf H σ S Q p
  simp only [ev] at h
  split at h
  · rename_i x f1 e1
    cases hd : unD op x with
    | none => rw [hd] at h; cases h
    | some d' =>
      rw [hd] at h
      cases h
      unfold unD at hd
      split at hd
      · cases hd
        exact by_pe (pe_un un_neg (pe_ a)) (ha X c ρ _ _ e1 Hf0 H0 Hf H σ S _ fun v H1 Hf1 F1 g1 r1 _ => ⟨_, r1.1, p.flat g1 rfl⟩)
      · cases hd
        exact by_pe (pe_un un_inv (pe_ a)) (ha X c ρ _ _ e1 Hf0 H0 Hf H σ S _ fun v H1 Hf1 F1 g1 r1 _ => ⟨_, r1.1, p.flat g1 rfl⟩)
      · cases hd
  · cases h

/-! ### and, or, not, if else -/
theorem sem_and {a b : Expr} {r : List Expr} {a' b' : E} {pos : Pos} (ha : SemE L N sc k a a') (hb : SemE L N sc k (.BoolOp .And (b :: r) pos) b') : SemE L N sc k (.BoolOp .And (a :: b :: r) pos) (.and a' b') := by
  intro X c ρ d fr h Hf0 H0 Hf H σ S Q p
  simp only [ev] at h
  split at h
  · rename_i f1 e1
    split at h
    · rename_i b1 f2 e2
      cases h
      exact by_pe (pe_and (pe_ a) (pe_ _)) (ha X c ρ _ _ e1 Hf0 H0 Hf H σ S _ fun v H1 Hf1 F1 g1 r1 _ => ⟨true, rep_bl r1, by
        rw [if_pos rfl]
        exact hb X c ρ _ _ e2 Hf0 H0 Hf1 H1 σ (S.grow g1) _ fun v2 H2 Hf2 F2 g2 r2 _ => p v2 H2 Hf2 F2 (g1.trans g2) r2 fun _ => by rw [r2.2]; exact New.nil⟩)
    · cases h
  · rename_i f1 e1
    cases h
    exact by_pe (pe_and (pe_ a) (pe_ _)) (ha X c ρ _ _ e1 Hf0 H0 Hf H σ S _ fun v H1 Hf1 F1 g1 r1 _ => ⟨false, rep_bl r1, by
      rw [if_neg Bool.false_ne_true]
      exact p.flat g1 rfl⟩)
  · cases h
theorem sem_or {a b : Expr} {r : List Expr} {a' b' : E} {pos : Pos} (ha : SemE L N sc k a a') (hb : SemE L N sc k (.BoolOp .Or (b :: r) pos) b') : SemE L N sc k (.BoolOp .Or (a :: b :: r) pos) (.or a' b') := by
  intro X c ρ d fr h Hf0 H0 Hf H σ S Q p
  simp only [ev] at h
  split at h
  · rename_i f1 e1
    split at h
    · rename_i b1 f2 e2
      cases h
      exact by_pe (pe_or (pe_ a) (pe_ _)) (ha X c ρ _ _ e1 Hf0 H0 Hf H σ S _ fun v H1 Hf1 F1 g1 r1 _ => ⟨false, rep_bl r1, by
        rw [if_neg Bool.false_ne_true]
        exact hb X c ρ _ _ e2 Hf0 H0 Hf1 H1 σ (S.grow g1) _ fun v2 H2 Hf2 F2 g2 r2 _ => p v2 H2 Hf2 F2 (g1.trans g2) r2 fun _ => by rw [r2.2]; exact New.nil⟩)
    · cases h
  · rename_i f1 e1
    cases h
    exact by_pe (pe_or (pe_ a) (pe_ _)) (ha X c ρ _ _ e1 Hf0 H0 Hf H σ S _ fun v H1 Hf1 F1 g1 r1 _ => ⟨true, rep_bl r1, by
      rw [if_pos rfl]
      exact p.flat g1 rfl⟩)
  · cases h
theorem sem_one {a : Expr} {a' : E} {op : BoolOp} {pos : Pos} (ha : SemE L N sc k a a') : SemE L N sc k (.BoolOp op [a] pos) a' :=
  fun X c ρ d fr h Hf0 H0 Hf H σ S Q p => by_pe (pe_one (pe_ a)) (ha X c ρ d fr h Hf0 H0 Hf H σ S Q p)
theorem sem_not {a : Expr} {a' : E} {pos : Pos} (ha : SemE L N sc k a a') : SemE L N sc k (.UnaryOp .Not a pos) (.not a') := by
  intro X c ρ d fr h Hf0 H0 Hf H σ S Q p
  simp only [ev] at h
  split at h
  · rename_i b f1 e1
    cases h
    exact by_pe (pe_not (pe_ a)) (ha X c ρ _ _ e1 Hf0 H0 Hf H σ S _ fun v H1 Hf1 F1 g1 r1 _ => ⟨b, rep_bl r1, p.flat g1 rfl⟩)
  · cases h
end
end Z

/-! Z6: operators on trees, tests, subscripts, slices, displays. -/
namespace Z
open PySem PySem.Spec PyProof.Rows L2
open Evl (Ex ex_l ex_t ex_rd)

section
variable {L : Law} {N : List Str} {sc : Sc} {k : Nat}
theorem Post.ret {T : Tab} {Hf H Hf' H' : Hp} {d : D} {fr : Bool} {Q : VK} {v : V} {F : List Addr} (p : Post T Hf H d fr Q) (g : Gr Hf H Hf' H') (r : rep T Hf' H' d v F) (n : fr = true → New H Hf' F) : Q v H' := p v H' Hf' F g r n
/-- a new owned list of frozen things -/
theorem Post.newL {T : Tab} {Hf H : Hp} {ds : List D} {fr : Bool} {Q : VK} {xs : List V} (p : Post T Hf H (.lst .own ds) fr Q) (s : Ex Hf H) (r : repS T Hf H ds xs []) : ∀ a, H a = none → Q (.ref a) (upd H a (.lst xs)) := fun a ha =>
  p (.ref a) _ Hf [a] (.push s ha) ⟨a, xs, [], rfl, rfl, upd_same, repS_mono (fun _ _ q => q) _ _ _ (fun _ hb => by cases hb) r⟩ fun _ => New.upd ha (hf_none s ha)
/-- a new frozen tuple -/
theorem Post.newT {T : Tab} {Hf H : Hp} {ds : List D} {fr : Bool} {Q : VK} {xs : List V} (p : Post T Hf H (.tup ds) fr Q) (s : Ex Hf H) (r : repS T Hf H ds xs []) : ∀ a, H a = none → Q (.ref a) (upd H a (.tup xs)) := fun a ha =>
  p (.ref a) _ (upd Hf a (.tup xs)) [] (.pushF s ha) ⟨a, xs, rfl, rfl, .of upd_same, repS_mono (Evl.Ex.new (hf_none s ha)) _ _ _ (fun _ hb => by cases hb) r⟩ fun _ => New.nil
theorem repS_rep {T : Tab} {Hf H : Hp} {ds : List D} {xs : List V} (h : repS T Hf H ds xs []) : ∀ n : Nat, repS T Hf H ((List.replicate n ds).flatten) ((List.replicate n xs).flatten) []
  | 0 => ⟨rfl, rfl⟩
  | n + 1 => by
    rw [List.replicate_succ, List.replicate_succ, List.flatten_cons, List.flatten_cons]
    exact repS_append h (repS_rep h n)
theorem mulOk_c {i j : Int} (h : mulOk i j = true) : CMul i j := by
  unfold mulOk at h
  unfold CMul
  simp only [Bool.or_eq_true, Bool.and_eq_true, decide_eq_true_eq] at h
  exact h
theorem shOk_c {i j : Int} (h : shOk i j = true) : CPow i j := by
  unfold shOk at h
  unfold CPow
  simp only [Bool.and_eq_true, decide_eq_true_eq] at h
  exact ⟨h.1.1, h.1.2, h.2⟩
/-- an operator of two ints -/
theorem of_rI0 {f : Value → Value → Sem Value} {g : Int → Int → V} {L : Law} {N : List Str} {sc : Sc} {k : Nat} {X : Cx} (o : OpR X f (rI0 g)) {pins : List (Addr × Obj)} {s : Shared} {σ : L2.St} {Hf H : Hp} {x y : V} {v u : Value} {i j : Int} {d : D} {F1 F2 : List Addr} {Q : VK}
    (I : Inv X pins σ H s) (rx : RelV x v) (ry : RelV y u) (e : Ex Hf H) (r1 : rep L.T Hf H (.int i) x F1) (r2 : rep L.T Hf H (.int j) y F2) (p : Post L.T Hf H d true Q) (hd : d.flat = true) (hv : d.v = g i j) : wpAny (model X.prog X.w) X.A (f v u) (EP X pins σ Q) X.xe s := by
  obtain ⟨rfl, _⟩ := r1
  obtain ⟨rfl, _⟩ := r2
  exact o pins s σ H _ _ v u Q I rx ry ⟨i, j, rfl, rfl, hv ▸ p.flat (.refl e) hd⟩
theorem of_rI {f : Value → Value → Sem Value} {C : Int → Int → Prop} {g : Int → Int → V} {L : Law} {X : Cx} (o : OpR X f (rI C g)) {pins : List (Addr × Obj)} {s : Shared} {σ : L2.St} {Hf H : Hp} {x y : V} {v u : Value} {i j : Int} {d : D} {F1 F2 : List Addr} {Q : VK}
    (I : Inv X pins σ H s) (rx : RelV x v) (ry : RelV y u) (e : Ex Hf H) (r1 : rep L.T Hf H (.int i) x F1) (r2 : rep L.T Hf H (.int j) y F2) (p : Post L.T Hf H d true Q) (hd : d.flat = true) (hv : d.v = g i j) (hc : C i j) : wpAny (model X.prog X.w) X.A (f v u) (EP X pins σ Q) X.xe s := by
  obtain ⟨rfl, _⟩ := r1
  obtain ⟨rfl, _⟩ := r2
  exact o pins s σ H _ _ v u Q I rx ry ⟨i, j, rfl, rfl, hc, hv ▸ p.flat (.refl e) hd⟩
/-- list + list, where they may be known objects -/
def rCatR : R2 := fun x y H Q => ∃ l b xs zs, x = .ref l ∧ y = .ref b ∧ Rd H l (.lst xs) ∧ Rd H b (.lst zs) ∧ xs.length + zs.length ≤ sizeLine ∧ ∀ p, H p = none → Q (.ref p) (upd H p (.lst (xs ++ zs)))
theorem op_catR {X : Cx} : OpR X (binaryOp .Add) rCatR := by
  intro pins s σ H x y v u Q I rx ry h
  obtain ⟨l, b, xs, zs, rfl, rfl, hH, hB, hz, q⟩ := h
  cases rx
  cases ry
  obtain ⟨z, its, n, r, e⟩ : ObjOk X.prog X.w H s.heap l (.lst xs) := hH.ok I.hok
  obtain ⟨z2, its2, n2, r2, e2⟩ : ObjOk X.prog X.w H s.heap b (.lst zs) := hB.ok I.hok
  have hl := r.length
  have hl2 := r2.length
  refine PySem.P.add_list e e2 ?_ (by rw [List.size_toArray, List.size_toArray]; omega)
  have ea : its.toArray ++ its2.toArray = (its ++ its2).toArray := by simp
  rw [ea]
  exact ⟨.ref _, _, I.lnew (t' := s.toks) (r.append r2) (by rw [List.length_append]; omega), rfl, q _ I.fresh⟩
theorem opT_bin (op : Operator) : OpT L k (binaryOp op) (binD op) := by
  intro X N sc c pins s σ Hf H x y v u d1 d2 d F1 F2 Q I rx ry e r1 r2 hd p
  unfold binD at hd
  split at hd
  · cases hd; exact of_rI0 (N := N) (sc := sc) (k := k) op_add I rx ry e r1 r2 p rfl rfl
  · cases hd; exact of_rI0 (N := N) (sc := sc) (k := k) op_sub I rx ry e r1 r2 p rfl rfl
  · split at hd
    · rename_i hc; cases hd
      rw [Bool.or_eq_true] at hc
      rcases hc with hc | hc
      · exact of_rI op_mul I rx ry e r1 r2 p rfl rfl (mulOk_c hc)
      · exact of_rI op_mulW I rx ry e r1 r2 p rfl rfl (by have := of_decide_eq_true hc; exact this)
    · cases hd
  · split at hd
    · rename_i hc; cases hd
      simp only [Bool.and_eq_true, Bool.or_eq_true, decide_eq_true_eq] at hc
      obtain ⟨h0, hc | hc⟩ := hc
      · exact of_rI op_fdiv I rx ry e r1 r2 p rfl rfl ⟨h0, hc⟩
      · exact of_rI op_fdivW I rx ry e r1 r2 p rfl rfl ⟨h0, hc⟩
    · cases hd
  · split at hd
    · rename_i hc; cases hd; exact of_rI op_mod I rx ry e r1 r2 p rfl rfl (of_decide_eq_true hc)
    · cases hd
  · split at hd
    · rename_i hc; cases hd; exact of_rI op_pow I rx ry e r1 r2 p rfl rfl (shOk_c hc)
    · cases hd
  · split at hd
    · rename_i hc; cases hd; exact of_rI op_shl I rx ry e r1 r2 p rfl rfl (shOk_c hc)
    · cases hd
  · split at hd
    · rename_i hc; cases hd; exact of_rI op_shr I rx ry e r1 r2 p rfl rfl (of_decide_eq_true hc)
    · cases hd
  · cases hd; exact of_rI0 (N := N) (sc := sc) (k := k) op_and I rx ry e r1 r2 p rfl rfl
  · cases hd; exact of_rI0 (N := N) (sc := sc) (k := k) op_or I rx ry e r1 r2 p rfl rfl
  · cases hd; exact of_rI0 (N := N) (sc := sc) (k := k) op_xor I rx ry e r1 r2 p rfl rfl
  · split at hd
    · rename_i hc; cases hd
      simp only [Bool.and_eq_true, decide_eq_true_eq] at hc
      obtain ⟨⟨⟨⟨h1, h2⟩, h3⟩, h5⟩, h4⟩ := hc
      obtain ⟨a, xs, G1, rfl, q1, s1⟩ := rep_rd e r1 h1
      obtain ⟨b, ys, G2, rfl, q2, s2⟩ := rep_rd e r2 h2
      have l1 := repS_len s1
      have l2 := repS_len s2
      refine op_catR pins s σ H _ _ v u Q I rx ry ⟨a, b, xs, ys, rfl, rfl, q1, q2, size_ok (by rw [l1, l2]; exact h4), p.newL e ?_⟩
      have := repS_append (repS_fz s1 h3) (repS_fz s2 h5)
      exact this
    · cases hd
  · split at hd
    · rename_i hc; cases hd
      simp only [Bool.and_eq_true, decide_eq_true_eq] at hc
      obtain ⟨⟨⟨h1, h2⟩, h3⟩, h4⟩ := hc
      obtain ⟨a, xs, G1, rfl, f, q1, s1⟩ := r1
      obtain ⟨rfl, _⟩ := r2
      have l1 := repS_len s1
      have h5 : (most : Int) < 2 ^ 63 := by decide
      refine op_rep pins s σ H _ _ v u Q I rx ry ⟨a, _, xs, rfl, rfl, q1, by omega, by omega, size_ok (by rw [l1]; exact h4), p.newL e ?_⟩
      exact repS_rep (repS_fz s1 h1) _
    · cases hd
  · cases hd

end
section
variable {T : Tab} {Hf H : Hp}
mutual
theorem rep_dp (s : Ex Hf H) : ∀ (d : D) (v : V) (F : List Addr) (p : PyData), rep T Hf H d v F → toPy d = some p → Dp T.K H v p
  | .non, _, _, _, h, e => by cases e; rw [h.1]; exact .non
  | .bl _, _, _, _, h, e => by cases e; rw [h.1]; exact .bl _
  | .int _, _, _, _, h, e => by cases e; rw [h.1]; exact .int _
  | .str _, _, _, _, h, e => by cases e; rw [h.1]; exact .str _
  | .lst m ds, v, F, p, h, e => by
    cases hp : toPyS ds with
    | none => simp [toPy, hp] at e
    | some ps =>
      simp [toPy, hp] at e
      subst e
      obtain ⟨a, xs, G, e1, q, r⟩ := rep_lst s h
      subst e1
      exact .lst q (repS_dp s ds xs G ps r hp)
  | .tup ds, v, F, p, h, e => by
    cases hp : toPyS ds with
    | none => simp [toPy, hp] at e
    | some ps =>
      simp [toPy, hp] at e
      subst e
      obtain ⟨a, xs, e1, q, r⟩ := rep_tup s h
      subst e1
      exact .tup q (repS_dp s ds xs [] ps r hp)
  | .obj _ _ _ _, _, _, _, _, e => by cases e
theorem repS_dp (s : Ex Hf H) : ∀ (ds : List D) (xs : List V) (F : List Addr) (ps : List PyData), repS T Hf H ds xs F → toPyS ds = some ps → DpAll T.K H xs ps
  | [], _, _, _, h, e => by cases e; rw [h.1]; exact .nil
  | d :: ds, _, _, ps, ⟨v, vs, F1, F2, e1, f, r, q⟩, e => by
    subst e1
    cases hp : toPy d with
    | none => simp [toPyS, hp] at e
    | some p =>
      cases hq : toPyS ds with
      | none => simp [toPyS, hp, hq] at e
      | some qs =>
        simp [toPyS, hp, hq] at e
        subst e
        exact .cons (rep_dp s d v F1 p r hp) (repS_dp s ds vs F2 qs q hq)
end
end

section
variable {L : Law} {N : List Str} {sc : Sc} {k : Nat}
theorem rep_isN {T : Tab} {Hf H : Hp} {d : D} {v : V} {F : List Addr} (h : rep T Hf H d v F) : decide (v = .non) = d.isN := by
  cases d with
  | non => rw [h.1]; rfl
  | bl b => rw [h.1]; rfl
  | int i => rw [h.1]; rfl
  | str x => rw [h.1]; rfl
  | lst m ds => cases m with
    | own => obtain ⟨a, xs, G, e, _⟩ := h; rw [e]; rfl
    | fz => obtain ⟨a, xs, e, _⟩ := h; rw [e]; rfl
    | ro => obtain ⟨a, xs, e, _⟩ := h; rw [e]; rfl
  | tup ds => obtain ⟨a, xs, e, _⟩ := h; rw [e]; rfl
  | obj m c ks ds => cases m with
    | some _ => obtain ⟨a, xs, G, e, _⟩ := h; rw [e]; rfl
    | none => obtain ⟨a, xs, G, e, _⟩ := h; rw [e]; rfl
theorem rep_v {T : Tab} {Hf H : Hp} {d : D} {v : V} {F : List Addr} (h : rep T Hf H d v F) (f : d.flat = true) : v = d.v := by
  cases d <;> first | exact h.1 | cases f
theorem flat_v {d : D} (f : d.flat = true) : flatV d.v = true := by
  cases d <;> first | rfl | cases f
theorem repS_v {T : Tab} {Hf H : Hp} : ∀ {ds : List D} {xs : List V} {F : List Addr}, repS T Hf H ds xs F → ds.all D.flat = true → xs = ds.map D.v ∧ xs.all flatV = true
  | [], _, _, h, _ => by rw [h.1]; exact ⟨rfl, rfl⟩
  | d :: ds, _, _, ⟨v, vs, F1, F2, e, f, r, q⟩, z => by
    subst e
    rw [List.all_cons, Bool.and_eq_true] at z
    obtain ⟨e1, e2⟩ := repS_v q z.2
    have e3 := rep_v r z.1
    subst e3
    subst e1
    exact ⟨rfl, by rw [List.all_cons, Bool.and_eq_true]; exact ⟨flat_v z.1, e2⟩⟩
theorem eqD_inv {x y : D} {b : Bool} (h : eqD x y = some b) : ∃ p q, toPy x = some p ∧ toPy y = some q ∧ SeqAt.shaped p = true ∧ SeqAt.shaped q = true ∧ PyData.eqv p q = b := by
  unfold eqD at h
  split at h
  · rename_i p q h1 h2
    split at h
    · rename_i hs
      rw [Bool.and_eq_true] at hs
      cases h
      exact ⟨p, q, h1, h2, hs.1, hs.2, rfl⟩
    · cases h
  · cases h
/-- what inD says, by the two kinds -/
theorem inD_inv {x y : D} {b : Bool} (h : inD x y = some b) : (∃ ds, y = .tup ds ∧ x.flat = true ∧ ds.all D.flat = true ∧ (ds.any fun z => eqV z.v x.v) = b) ∨
    ∃ m ds p ps, y = .lst m ds ∧ toPy x = some p ∧ toPyS ds = some ps ∧ SeqAt.shaped p = true ∧ SeqAt.shaped (.list ps) = true ∧ (ps.any fun z => PyData.eqv z p) = b := by
  unfold inD at h
  split at h
  · split at h
    · rename_i hs
      rw [Bool.and_eq_true] at hs
      cases h
      exact .inl ⟨_, rfl, hs.1, hs.2, rfl⟩
    · cases h
  · split at h
    · rename_i p ps h1 h2
      split at h
      · rename_i hs
        rw [Bool.and_eq_true] at hs
        cases h
        exact .inr ⟨_, _, p, ps, rfl, h1, h2, hs.1, hs.2, rfl⟩
      · cases h
    · cases h
  · cases h
theorem opT_cmp (op : CmpOp) : OpT L k (compareOp op) (cmpB op) := by
  intro X N sc c pins s σ Hf H x y v u d1 d2 d F1 F2 Q I rx ry e r1 r2 hd p
  have hu : X.A.units + 65 < cLine := by have := c.room.un; omega
  unfold cmpB at hd
  cases hb : cmpD op d1 d2 with
  | none => rw [hb] at hd; cases hd
  | some b =>
    rw [hb] at hd
    cases hd
    have fin : ∀ b', b' = b → Q (.bl b') H := fun b' z => by subst z; exact p.flat (.refl e) rfl
    unfold cmpD at hb
    split at hb
    · cases hb; obtain ⟨rfl, _⟩ := r1; obtain ⟨rfl, _⟩ := r2; exact op_lt pins s σ H _ _ v u Q I rx ry ⟨_, _, rfl, rfl, fin _ rfl⟩
    · cases hb; obtain ⟨rfl, _⟩ := r1; obtain ⟨rfl, _⟩ := r2; exact op_le pins s σ H _ _ v u Q I rx ry ⟨_, _, rfl, rfl, fin _ rfl⟩
    · cases hb; obtain ⟨rfl, _⟩ := r1; obtain ⟨rfl, _⟩ := r2; exact op_gt pins s σ H _ _ v u Q I rx ry ⟨_, _, rfl, rfl, fin _ rfl⟩
    · cases hb; obtain ⟨rfl, _⟩ := r1; obtain ⟨rfl, _⟩ := r2; exact op_ge pins s σ H _ _ v u Q I rx ry ⟨_, _, rfl, rfl, fin _ rfl⟩
    · obtain ⟨p1, p2, h1, h2, s1, s2, hv⟩ := eqD_inv hb
      exact op_eqD (by omega) pins s σ H _ _ v u Q I rx ry ⟨p1, p2, c.hK ▸ rep_dp e _ _ _ _ r1 h1, c.hK ▸ rep_dp e _ _ _ _ r2 h2, s1, s2, fin _ hv⟩
    · cases he : eqD d1 d2 with
      | none => rw [he] at hb; cases hb
      | some b0 =>
        rw [he] at hb
        cases hb
        obtain ⟨p1, p2, h1, h2, s1, s2, hv⟩ := eqD_inv he
        exact op_neD (by omega) pins s σ H _ _ v u Q I rx ry ⟨p1, p2, c.hK ▸ rep_dp e _ _ _ _ r1 h1, c.hK ▸ rep_dp e _ _ _ _ r2 h2, s1, s2, fin _ (by rw [hv])⟩
    · rcases inD_inv hb with ⟨ds, rfl, f1, f2, hv⟩ | ⟨m, ds, p1, ps, rfl, h1, h2, s1, s2, hv⟩
      · obtain ⟨a, xs, rfl, q, r⟩ := rep_tup e r2
        obtain ⟨e1, e2⟩ := repS_v r f2
        have e3 := rep_v r1 f1
        subst e3
        subst e1
        exact op_in_seq pins s σ H _ _ v u Q I rx ry ⟨a, _, rfl, .inr (c.hK ▸ q), flat_v f1, e2, fin _ (by rw [← hv]; unfold inV; rw [if_neg Bool.false_ne_true, List.any_map]; rfl)⟩
      · have r3 : rep L.T Hf H (.lst m ds) y F2 := r2
        have hd2 := rep_dp e _ _ _ (.list ps) r3 (by simp [toPy, h2])
        exact op_inD hu pins s σ H _ _ v u Q I rx ry ⟨p1, ps, c.hK ▸ rep_dp e _ _ _ _ r1 h1, c.hK ▸ hd2, s1, s2, fin _ hv⟩
    · cases he : inD d1 d2 with
      | none => rw [he] at hb; cases hb
      | some b0 =>
        rw [he] at hb
        cases hb
        rcases inD_inv he with ⟨ds, rfl, f1, f2, hv⟩ | ⟨m, ds, p1, ps, rfl, h1, h2, s1, s2, hv⟩
        · obtain ⟨a, xs, rfl, q, r⟩ := rep_tup e r2
          obtain ⟨e1, e2⟩ := repS_v r f2
          have e3 := rep_v r1 f1
          subst e3
          subst e1
          exact op_notIn_seq pins s σ H _ _ v u Q I rx ry ⟨a, _, rfl, .inr (c.hK ▸ q), flat_v f1, e2, fin _ (by rw [← hv]; unfold inV; rw [if_pos rfl, List.any_map]; rfl)⟩
        · have hd2 := rep_dp e _ _ _ (.list ps) r2 (by simp [toPy, h2])
          exact op_notInD hu pins s σ H _ _ v u Q I rx ry ⟨p1, ps, c.hK ▸ rep_dp e _ _ _ _ r1 h1, c.hK ▸ hd2, s1, s2, fin _ (by rw [hv])⟩
    · cases hb; have e2 := r2.1; subst e2; exact op_isN pins s σ H _ _ v u Q I rx ry ⟨rfl, fin _ (rep_isN r1)⟩
    · cases hb; have e2 := r2.1; subst e2; exact op_notN pins s σ H _ _ v u Q I rx ry ⟨rfl, fin _ (by rw [rep_isN r1])⟩
    · cases hb; obtain ⟨rfl, _⟩ := r1; obtain ⟨rfl, _⟩ := r2; exact op_is_bl pins s σ H _ _ v u Q I rx ry ⟨_, _, rfl, rfl, fin _ rfl⟩
    · cases hb; obtain ⟨rfl, _⟩ := r1; obtain ⟨rfl, _⟩ := r2; exact op_isnot_bl pins s σ H _ _ v u Q I rx ry ⟨_, _, rfl, rfl, fin _ rfl⟩
    · cases hb
end
end Z

/-! Z7: tests, subscripts, slices, fields, displays, arguments, built-in functions. -/
namespace Z
open PySem PySem.Spec PyProof.Rows L2
open Evl (Ex ex_l ex_t ex_rd)

section
variable {L : Law} {N : List Str} {sc : Sc} {k : Nat}
/-! ### tests -/
def SemT (L : Law) (N : List Str) (sc : Sc) (k : Nat) (e : Expr) (e' : E) : Prop :=
  ∀ X, Cok L N sc k X → ∀ ρ b, test L.G e' ρ = some b → ∀ Hf0 H0 Hf H σ, StOk L.T Hf0 H0 Hf H ρ σ → ∀ Q : Bool → Hp → Prop, (∀ H' Hf', Gr Hf H Hf' H' → Q b H') → tT X e σ H Q
/-- a test whatever its whole is -/
def tW (X : Cx) (e : Expr) : TT := fun σ H Q => ∀ whole pins s, Inv X pins σ H s → wpAny (model X.prog X.w) X.A (isTrue e X.env whole) (TP X pins σ Q) X.xe s
theorem pw_ {X : Cx} (e : Expr) : PW X e (tW X e) := ⟨fun wh pins s _ _ _ I h => h wh pins s I⟩
theorem by_pw {X : Cx} {e : Expr} {t : TT} {σ : L2.St} {H : Hp} {Q : Bool → Hp → Prop} (p : PW X e t) (h : t σ H Q) : tW X e σ H Q := fun wh pins s I => p.run wh pins s σ H Q I h
def SemW (L : Law) (N : List Str) (sc : Sc) (k : Nat) (e : Expr) (e' : E) : Prop :=
  ∀ X, Cok L N sc k X → ∀ ρ b, test L.G e' ρ = some b → ∀ Hf0 H0 Hf H σ, StOk L.T Hf0 H0 Hf H ρ σ → ∀ Q : Bool → Hp → Prop, (∀ H' Hf', Gr Hf H Hf' H' → Q b H') → tW X e σ H Q
theorem SemW.t {e : Expr} {e' : E} (h : SemW L N sc k e e') : SemT L N sc k e e' := fun X c ρ b ht Hf0 H0 Hf H σ S Q q => by_pt (PW.pt (pw_ e)) (h X c ρ b ht Hf0 H0 Hf H σ S Q q)
theorem rep_tru {T : Tab} {Hf H : Hp} {d : D} {v : V} {F : List Addr} {b : Bool} (s : Ex Hf H) (h : rep T Hf H d v F) (e : truD d = some b) : TruV T.K v H b := by
  cases d with
  | non => rw [h.1]; cases e; rfl
  | bl x => rw [h.1]; cases e; rfl
  | int i => rw [h.1]; cases e; rfl
  | str x => cases e
  | lst m ds =>
    obtain ⟨a, xs, G, rfl, q, r⟩ := rep_lst s h
    cases e
    refine .inl ⟨xs, q, ?_⟩
    have l := repS_len r
    cases ds <;> cases xs <;> first | rfl | simp at l
  | tup ds =>
    obtain ⟨a, xs, rfl, q, r⟩ := rep_tup s h
    cases e
    refine .inr (.inl ⟨xs, q, ?_⟩)
    have l := repS_len r
    cases ds <;> cases xs <;> first | rfl | simp at l
  | obj m c ks ds => cases e
/-- an expression whose test is its value's truth -/
theorem semT_plain {e : Expr} {e' : E} (h : SemE L N sc k e e') (he : ∀ env whole, isTrue e env whole = (do let v ← whole; standAt e.pos; holding [v] (truthy v))) : SemT L N sc k e e' := by
  intro X c ρ b ht Hf0 H0 Hf H σ S Q q
  unfold test at ht
  split at ht
  · rename_i d f hd
    exact by_pt (pt_truth (pe_ e) (he _)) (h X c ρ d f hd Hf0 H0 Hf H σ S _ fun v H' Hf' F g r n => ⟨b, by rw [c.hK]; exact rep_tru g.s r ht, q H' Hf' g⟩)
  · cases ht
theorem semT_cmp {a b : Expr} {a' b' : E} {op : CmpOp} {pos : Pos} (o : OpT L k (compareOp op) (cmpBG L.G op)) (hm : behindInMarks op b = false) (ha : SemE L N sc k a a') (hb : SemE L N sc k b b') : SemT L N sc k (.Compare a [op] [b] pos) (.cmp op a' b') := by
  intro X c ρ bb ht Hf0 H0 Hf H σ S Q q
  unfold test at ht
  simp only [ev] at ht
  split at ht
  · rename_i d f hd
    split at hd
    · rename_i x f1 y f2 e1 e2
      cases hh : cmpG L.G op x y with
      | none => rw [hh] at hd; cases hd
      | some d' =>
        rw [hh] at hd
        cases hd
        cases ht
        exact by_pt (pt_cmpR (o.r c) (pe_ a) (pe_ b) hm) (two ha hb c e1 e2 S fun v u H' Hf' F1 F2 g r1 r2 =>
          ⟨Hf', x, y, .bl bb, F1, F2, g.s, r1, r2, by unfold cmpBG; rw [hh]; rfl, fun v H2 Hf2 F g2 r _ => ⟨bb, rep_bl r, q H2 Hf2 (g.trans g2)⟩⟩)
    · cases hd
  · cases ht
theorem semT_chain {a b e : Expr} {a' b' e' : E} {op op' : CmpOp} {pos : Pos} (hm : lastMarks [op, op'] [b, e] = false) (ha : SemE L N sc k a a') (hb : SemE L N sc k b b') (hc : SemE L N sc k e e') :
    SemT L N sc k (.Compare a [op, op'] [b, e] pos) (.chain op op' a' b' e') := by
  intro X c ρ bb ht Hf0 H0 Hf H σ S Q q
  have se := sem_chain (pos := pos) (opT_cmp (L := L) op) (opT_cmp op') hm ha hb hc
  unfold test at ht
  split at ht
  · rename_i d f hd
    -- by the value's own proof, read as a test
    simp only [ev] at hd
    split at hd
    · rename_i x f1 y f2 e1 e2
      refine by_pt (pt_chain ((opT_cmp op).r c) ((opT_cmp op').r c) (pe_ a) (pe_ b) (pe_ e) hm) (two ha hb c e1 e2 S fun v u H' Hf' F1 F2 g r1 r2 => ?_)
      split at hd
      · rename_i hx
        split at hd
        · rename_i z f3 e3
          cases hd2 : cmpD op' y z with
          | none => rw [hd2] at hd; cases hd
          | some k2 =>
            rw [hd2] at hd
            cases hd
            cases ht
            refine ⟨Hf', x, y, .bl true, F1, F2, g.s, r1, r2, by unfold cmpB; rw [hx]; rfl, fun v1 H1 Hf1 F3 g1 r3 _ => ⟨true, rep_bl r3, ?_⟩⟩
            rw [if_pos rfl]
            exact hc X c ρ z f3 e3 Hf0 H0 Hf1 H1 σ ((S.grow g).grow g1) _ fun w H2 Hf2 F4 g2 r4 _ =>
              ⟨Hf2, y, z, .bl bb, F2, F4, g2.s, rep_mono (g1.trans g2).f _ _ _ (fun a _ o q => (g1.trans g2).e a o q) r2, r4, by unfold cmpB; rw [hd2]; rfl, fun v H3 Hf3 F g3 r _ => ⟨bb, rep_bl r, q H3 Hf3 (((g.trans g1).trans g2).trans g3)⟩⟩
        · cases hd
      · rename_i hx
        cases hd
        cases ht
        refine ⟨Hf', x, y, .bl false, F1, F2, g.s, r1, r2, by unfold cmpB; rw [hx]; rfl, fun v1 H1 Hf1 F3 g1 r3 _ => ⟨false, rep_bl r3, ?_⟩⟩
        rw [if_neg Bool.false_ne_true]
        exact ⟨false, rfl, q H1 Hf1 (g.trans g1)⟩
      · cases hd
    · cases hd
  · cases ht
theorem semW_and1 {a : Expr} {a' : E} {pos : Pos} (ha : SemT L N sc k a a') : SemW L N sc k (.BoolOp .And [a] pos) a' := fun X c ρ b ht Hf0 H0 Hf H σ S Q q => by_pw (pw_and1 (pt_ a)) (ha X c ρ b ht Hf0 H0 Hf H σ S Q q)
theorem semW_or1 {a : Expr} {a' : E} {pos : Pos} (ha : SemT L N sc k a a') : SemW L N sc k (.BoolOp .Or [a] pos) a' := fun X c ρ b ht Hf0 H0 Hf H σ S Q q => by_pw (pw_or1 (pt_ a)) (ha X c ρ b ht Hf0 H0 Hf H σ S Q q)
theorem semW_and {a b : Expr} {r : List Expr} {a' b' : E} {pos : Pos} (ha : SemT L N sc k a a') (hb : SemW L N sc k (.BoolOp .And (b :: r) pos) b') : SemW L N sc k (.BoolOp .And (a :: b :: r) pos) (.and a' b') := by
  intro X c ρ bb ht Hf0 H0 Hf H σ S Q q
  unfold test at ht
  simp only [ev] at ht
  split at ht
  · rename_i d f hd
    split at hd
    · rename_i f1 e1
      split at hd
      · rename_i b1 f2 e2
        cases hd
        cases ht
        refine by_pw (pw_and (pt_ a) (pw_ _)) (ha X c ρ true (by unfold test; rw [e1]; rfl) Hf0 H0 Hf H σ S _ fun H1 Hf1 g1 => ?_)
        rw [if_pos rfl]
        exact hb X c ρ bb (by unfold test; rw [e2]; rfl) Hf0 H0 Hf1 H1 σ (S.grow g1) _ fun H2 Hf2 g2 => q H2 Hf2 (g1.trans g2)
      · cases hd
    · rename_i f1 e1
      cases hd
      cases ht
      refine by_pw (pw_and (pt_ a) (pw_ _)) (ha X c ρ false (by unfold test; rw [e1]; rfl) Hf0 H0 Hf H σ S _ fun H1 Hf1 g1 => ?_)
      rw [if_neg Bool.false_ne_true]
      exact q H1 Hf1 g1
    · cases hd
  · cases ht
theorem semW_or {a b : Expr} {r : List Expr} {a' b' : E} {pos : Pos} (ha : SemT L N sc k a a') (hb : SemW L N sc k (.BoolOp .Or (b :: r) pos) b') : SemW L N sc k (.BoolOp .Or (a :: b :: r) pos) (.or a' b') := by
  intro X c ρ bb ht Hf0 H0 Hf H σ S Q q
  unfold test at ht
  simp only [ev] at ht
  split at ht
  · rename_i d f hd
    split at hd
    · rename_i f1 e1
      split at hd
      · rename_i b1 f2 e2
        cases hd
        cases ht
        refine by_pw (pw_or (pt_ a) (pw_ _)) (ha X c ρ false (by unfold test; rw [e1]; rfl) Hf0 H0 Hf H σ S _ fun H1 Hf1 g1 => ?_)
        rw [if_neg Bool.false_ne_true]
        exact hb X c ρ bb (by unfold test; rw [e2]; rfl) Hf0 H0 Hf1 H1 σ (S.grow g1) _ fun H2 Hf2 g2 => q H2 Hf2 (g1.trans g2)
      · cases hd
    · rename_i f1 e1
      cases hd
      cases ht
      refine by_pw (pw_or (pt_ a) (pw_ _)) (ha X c ρ true (by unfold test; rw [e1]; rfl) Hf0 H0 Hf H σ S _ fun H1 Hf1 g1 => ?_)
      rw [if_pos rfl]
      exact q H1 Hf1 g1
    · cases hd
  · cases ht
theorem semT_not {a : Expr} {a' : E} {pos : Pos} (ha : SemT L N sc k a a') : SemT L N sc k (.UnaryOp .Not a pos) (.not a') := by
  intro X c ρ bb ht Hf0 H0 Hf H σ S Q q
  unfold test at ht
  simp only [ev] at ht
  split at ht
  · rename_i d f hd
    split at hd
    · rename_i b1 f1 e1
      cases hd
      cases ht
      exact by_pt (pt_not (pt_ a)) (ha X c ρ b1 (by unfold test; rw [e1]; rfl) Hf0 H0 Hf H σ S _ fun H1 Hf1 g1 => q H1 Hf1 g1)
    · cases hd
  · cases ht
theorem sem_ite {t a b : Expr} {t' a' b' : E} {pos : Pos} (ht : SemT L N sc k t t') (ha : SemE L N sc k a a') (hb : SemE L N sc k b b') : SemE L N sc k (.IfExp t a b pos) (.ite t' a' b') := by
  intro X c ρ d fr h Hf0 H0 Hf H σ S Q p
  simp only [ev] at h
  split at h
  · rename_i f1 e1
    refine by_pe (pe_ifExp (pt_ t) (pe_ a) (pe_ b)) (ht X c ρ true (by unfold test; rw [e1]; rfl) Hf0 H0 Hf H σ S _ fun H1 Hf1 g1 => ?_)
    rw [if_pos rfl]
    exact ha X c ρ d fr h Hf0 H0 Hf1 H1 σ (S.grow g1) Q (p.grow g1)
  · rename_i f1 e1
    refine by_pe (pe_ifExp (pt_ t) (pe_ a) (pe_ b)) (ht X c ρ false (by unfold test; rw [e1]; rfl) Hf0 H0 Hf H σ S _ fun H1 Hf1 g1 => ?_)
    rw [if_neg Bool.false_ne_true]
    exact hb X c ρ d fr h Hf0 H0 Hf1 H1 σ (S.grow g1) Q (p.grow g1)
  · cases h

/-! ### subscripts, slices, fields -/
theorem atI_rep {T : Tab} {Hf H : Hp} {ds : List D} {xs : List V} {F : List Addr} {i : Int} {d : D} (r : repS T Hf H ds xs F) (h : at? ds i = some d) : ∃ v G, atI xs i = some v ∧ rep T Hf H d v G := by
  unfold at? atI at h
  have l := repS_len r
  cases e : ixN ds.length i with
  | none => rw [e] at h; cases h
  | some j =>
    rw [e] at h
    obtain ⟨v, G, h1, h2, _⟩ := repS_get r (i := j) h
    exact ⟨v, G, by unfold atI; rw [l, e]; exact h1, h2⟩
theorem sem_idx {a b : Expr} {a' b' : E} {pos : Pos} (hs : PlainIx b) (ha : SemE L N sc k a a') (hb : SemE L N sc k b b') : SemE L N sc k (.Subscript a b pos) (.idx a' b') := by
  intro X c ρ d fr h Hf0 H0 Hf H σ S Q p
  simp only [ev] at h
  split at h
  · rename_i x f1 i f2 e1 e2
    split at h
    · rename_i ds hds
      cases hd : at? ds i with
      | none => rw [hd] at h; cases h
      | some d' =>
        rw [hd] at h
        cases h
        refine by_pe (pe_ix ix_seq (pe_ a) (pe_ b) hs) (two ha hb c e1 e2 S fun v u H' Hf' F1 F2 g r1 r2 => ?_)
        obtain ⟨p1, xs, G, rfl, q, r⟩ := rep_seq g.s r1 hds
        obtain ⟨rfl, _⟩ := r2
        obtain ⟨w, G2, hw, rw'⟩ := atI_rep r hd
        have fin : Q w H' := p.ret g rw' fun z => by rw [fz_nil rw' z]; exact New.nil
        rcases q with q | q
        · exact .inl ⟨p1, xs, i, w, rfl, rfl, c.hK ▸ q, hw, fin⟩
        · exact .inr (.inl ⟨p1, xs, i, w, rfl, rfl, c.hK ▸ q, hw, fin⟩)
    · cases h
  · cases h
/-- a part of a slice -/
def tO (X : Cx) (o : Option Expr) (o' : E) : Prop := True
def SemO (L : Law) (N : List Str) (sc : Sc) (k : Nat) (o : Option Expr) (o' : E) : Prop :=
  match o with
  | none => o' = .skip
  | some e => o' ≠ .skip ∧ SemE L N sc k e o'
theorem optI_some {e : E} {r : Option (D × Bool)} {l : Option Int} (h : optI e r = some l) (n : e ≠ .skip) : ∃ i f, r = some (.int i, f) ∧ l = some i := by
  unfold optI at h
  split at h
  · exact absurd rfl n
  · cases h
    exact ⟨_, _, rfl, rfl⟩
  · cases h
/-- one part of a slice is read -/
theorem part {o : Option Expr} {o' : E} (ho : SemO L N sc k o o') {X : Cx} (c : Cok L N sc k X) {ρ : Rho} {l : Option Int} (h : optI o' (ev L.G o' ρ) = some l) {Hf0 H0 Hf H : Hp} {σ : L2.St} (S : StOk L.T Hf0 H0 Hf H ρ σ) :
    ∃ t : TO, PO X o t ∧ ∀ Hf1 H1, Gr Hf H Hf1 H1 → ∀ Q : Option Int → Hp → Prop, (∀ H' Hf', Gr Hf1 H1 Hf' H' → Q l H') → t σ H1 Q := by
  cases o with
  | none =>
    have e : o' = .skip := ho
    subst e
    cases h
    exact ⟨_, po_none, fun Hf1 H1 g Q q => q H1 Hf1 (.refl g.s)⟩
  | some e =>
    obtain ⟨n, he⟩ : o' ≠ .skip ∧ SemE L N sc k e o' := ho
    obtain ⟨i, f, e1, rfl⟩ := optI_some h n
    exact ⟨_, po_some (pe_ e), fun Hf1 H1 g Q q => he X c ρ _ f e1 Hf0 H0 Hf1 H1 σ (S.grow g) _ fun v H' Hf' F g1 r _ => ⟨i, r.1, q H' Hf' g1⟩⟩
theorem repS_drop {T : Tab} {Hf H : Hp} : ∀ {ds : List D} {xs : List V} (n : Nat), repS T Hf H ds xs [] → repS T Hf H (ds.drop n) (xs.drop n) []
  | _, _, 0, h => h
  | [], _, n + 1, h => by rw [h.1]; exact ⟨rfl, rfl⟩
  | d :: ds, _, n + 1, ⟨v, vs, F1, F2, e, f, r, q⟩ => by
    subst e
    have e2 : F2 = [] := by
      cases F1 with
      | nil => exact f.symm
      | cons a b => cases f
    subst e2
    exact repS_drop n q
theorem repS_take {T : Tab} {Hf H : Hp} : ∀ {ds : List D} {xs : List V} (n : Nat), repS T Hf H ds xs [] → repS T Hf H (ds.take n) (xs.take n) []
  | _, _, 0, h => ⟨rfl, rfl⟩
  | [], _, n + 1, h => by rw [h.1]; exact ⟨rfl, rfl⟩
  | d :: ds, _, n + 1, ⟨v, vs, F1, F2, e, f, r, q⟩ => by
    subst e
    have e2 : F1 = [] ∧ F2 = [] := by
      cases F1 with
      | nil => exact ⟨rfl, f.symm⟩
      | cons a b => cases f
    obtain ⟨e1, e2⟩ := e2
    subst e1; subst e2
    exact ⟨v, vs.take n, [], [], rfl, rfl, r, repS_take n q⟩
theorem sem_sl {a : Expr} {lo hi : Option Expr} {a' lo' hi' : E} {p2 pos : Pos} (ha : SemE L N sc k a a') (hlo : SemO L N sc k lo lo') (hhi : SemO L N sc k hi hi') : SemE L N sc k (.Subscript a (.Slice lo hi none p2) pos) (.sl a' lo' hi') := by
  intro X c ρ d fr h Hf0 H0 Hf H σ S Q p
  simp only [ev] at h
  split at h
  · rename_i m ds f1 l u e1 e2 e3
    split at h
    · rename_i hz
      cases h
      obtain ⟨tl, pl, ql⟩ := part hlo c e2 S
      obtain ⟨th, ph, qh⟩ := part hhi c e3 S
      refine by_pe (pe_slice sl_list (pe_ a) pl ph) (ha X c ρ _ f1 e1 Hf0 H0 Hf H σ S _ fun v H1 Hf1 F1 g1 r1 _ => ql Hf1 H1 g1 _ fun H2 Hf2 g2 => qh Hf2 H2 (g1.trans g2) _ fun H3 Hf3 g3 => ?_)
      have g := (g1.trans g2).trans g3
      have r3 := rep_mono (g2.trans g3).f _ _ _ (fun a _ o q => (g2.trans g3).e a o q) r1
      obtain ⟨b, xs, G, rfl, q, r⟩ := rep_lst g3.s r3
      have len := repS_len r
      refine ⟨b, xs, rfl, c.hK ▸ q, Post.newL (p.grow g) g3.s ?_⟩
      unfold sIxD cutV
      rw [len]
      exact repS_take _ (repS_drop _ (repS_fz r hz))
    · cases h
  · rename_i ds f1 l u e1 e2 e3
    cases h
    obtain ⟨tl, pl, ql⟩ := part hlo c e2 S
    obtain ⟨th, ph, qh⟩ := part hhi c e3 S
    refine by_pe (pe_slice sl_tupA (pe_ a) pl ph) (ha X c ρ _ f1 e1 Hf0 H0 Hf H σ S _ fun v H1 Hf1 F1 g1 r1 _ => ql Hf1 H1 g1 _ fun H2 Hf2 g2 => qh Hf2 H2 (g1.trans g2) _ fun H3 Hf3 g3 => ?_)
    have g := (g1.trans g2).trans g3
    have r3 := rep_mono (g2.trans g3).f _ _ _ (fun a _ o q => (g2.trans g3).e a o q) r1
    have r30 := r3
    obtain ⟨b, xs, rfl, q, r⟩ := rep_tup g3.s r3
    have len := repS_len r
    have cut : repS L.T Hf3 H3 ((ds.drop (sIxD ds.length 0 l)).take (sIxD ds.length ds.length u - sIxD ds.length 0 l)) (cutV xs l u) [] := by
      unfold sIxD cutV
      rw [len]
      exact repS_take _ (repS_drop _ r)
    refine ⟨b, xs, rfl, c.hK ▸ q, fun hw => ?_, fun _ => Post.newT (p.grow g) g3.s cut⟩
    have e : (ds.drop (sIxD ds.length 0 l)).take (sIxD ds.length ds.length u - sIxD ds.length 0 l) = ds := by
      unfold sIxD
      rw [len] at hw
      rw [hw.1, hw.2, List.drop_zero, Nat.sub_zero, List.take_length]
    rw [e] at p
    exact p.ret g r30 fun _ => by rw [fz_nil r30 rfl]; exact New.nil
  · cases h

/-! ### fields -/
theorem names_get {T : Tab} {Hf H : Hp} (nd : T.nm.Nodup) {kk : Nat} {x : Str} (hk : T.nm[kk]? = some x) : ∀ {ks : List Nat} {ds : List D} {fs : List (Str × V)} {d : D}, fs.map (fun p => some p.1) = ks.map (fun k => T.nm[k]?) → repS T Hf H ds (fs.map (·.2)) [] →
    getF kk ks ds = some d → ∃ v, fs.lookup x = some v ∧ rep T Hf H d v []
  | [], _, _, _, _, _, h => by simp [getF] at h
  | _ :: _, [], _, _, _, _, h => by simp [getF] at h
  | j :: ks, d0 :: ds, [], _, e, _, h => by simp at e
  | j :: ks, d0 :: ds, (y, w) :: fs, d, e, r, h => by
    rw [List.map_cons, List.map_cons] at e
    injection e with e1 e2
    obtain ⟨v, vs, F1, F2, e3, f, r1, r2⟩ := r
    rw [List.map_cons] at e3
    injection e3 with e4 e5
    subst e4
    have e6 : F1 = [] ∧ F2 = [] := by
      cases F1 with
      | nil => exact ⟨rfl, f.symm⟩
      | cons a b => cases f
    obtain ⟨e6, e7⟩ := e6
    subst e6; subst e7; subst e5
    unfold getF at h
    by_cases hj : j = kk
    · subst hj
      rw [if_pos rfl] at h
      cases h
      rw [hk] at e1
      cases e1
      exact ⟨w, by simp [List.lookup], r1⟩
    · rw [if_neg hj] at h
      obtain ⟨v2, h1, h2⟩ := names_get nd hk e2 r2 h
      refine ⟨v2, ?_, h2⟩
      have ne : (x == y) = false := by
        rw [beq_eq_false_iff_ne]
        intro z
        subst z
        have e8 : T.nm[j]? = some x := e1.symm
        obtain ⟨l1, q1⟩ := List.getElem?_eq_some_iff.mp e8
        obtain ⟨l2, q2⟩ := List.getElem?_eq_some_iff.mp hk
        exact hj ((List.getElem_inj nd).mp (q1.trans q2.symm))
      rw [List.lookup, ne]
      exact h1
/-- what holds of the law's own classes and names -/
structure LawOk (L : Law) : Prop where
  nm : L.T.nm.Nodup
  cls : ∀ c, Cls L.T.K (L.T.cl c)
  na : ∀ c, ∀ x ∈ L.T.nm, NoAttr L.T.K (L.T.cl c) x
theorem sem_fld {a : Expr} {a' : E} {kk : Nat} {f : Str} {pos : Pos} (O : LawOk L) (hf : L.T.nm[kk]? = some f) (hb : ∀ env, attributeBase a f env (eval a env) = eval a env) (ha : SemE L N sc k a a') : SemE L N sc k (.Attribute a f pos) (.fld a' kk) := by
  intro X c ρ d fr h Hf0 H0 Hf H σ S Q p
  simp only [ev] at h
  split at h
  · rename_i m cc ks ds f1 e1
    cases hd : getF kk ks ds with
    | none => rw [hd] at h; cases h
    | some d' =>
      rw [hd] at h
      cases h
      refine by_pe (pe_fld (pe_ a) (hb _)) (ha X c ρ _ f1 e1 Hf0 H0 Hf H σ S _ fun v H1 Hf1 F1 g1 r1 _ => ?_)
      have fin : ∀ b dx fs, v = .ref b → H1 b = some (.ins (L.T.cl cc) dx fs) → fs.map (fun p => some p.1) = ks.map (fun k => L.T.nm[k]?) → repS L.T Hf1 H1 ds (fs.map (·.2)) [] →
          ∃ a C dx fs w, v = .ref a ∧ H1 a = some (.ins C dx fs) ∧ Cls X.K C ∧ NoAttr X.K C f ∧ fs.lookup f = some w ∧ Q w H1 := fun b dx fs e q n r => by
        obtain ⟨w, hw, rw'⟩ := names_get O.nm hf n r hd
        exact ⟨b, _, dx, fs, w, e, q, c.hK ▸ O.cls cc, c.hK ▸ O.na cc f (List.mem_of_getElem? hf), hw, p.ret g1 rw' fun z => New.nil⟩
      cases m with
      | some _ => obtain ⟨b, dx, fs, e, _, q, n, r⟩ := r1; exact fin b dx fs e q.2 n r
      | none => obtain ⟨b, dx, fs, e, _, q, n, r⟩ := r1; exact fin b dx fs e (g1.s _ _ q) n r
  · cases h

/-! ### arguments, displays -/
theorem semA_nil : SemA L N sc k [] .nil := by
  intro X c ρ ds fr h Hf0 H0 Hf H σ S Q p
  cases h
  exact by_pa pa_nil (p [] H Hf [] (.refl S.sub) ⟨rfl, rfl⟩ fun _ => New.nil)
theorem semA_cons {e : Expr} {es : List Expr} {e' : E} {es' : Es} (hs : ∀ env, starEach (e :: es) env = (false, eval e env) :: starEach es env) (he : SemE L N sc k e e') (hr : SemA L N sc k es es') : SemA L N sc k (e :: es) (.cons e' es') := by
  intro X c ρ ds fr h Hf0 H0 Hf H σ S Q p
  simp only [evs] at h
  split at h
  · rename_i d f ds' g e1 e2
    cases h
    refine by_pa (pa_cons (pe_ e) (pa_ es) (hs _)) (he X c ρ d f e1 Hf0 H0 Hf H σ S _ fun v H1 Hf1 F1 g1 r1 n1 => hr X c ρ ds' g e2 Hf0 H0 Hf1 H1 σ (S.grow g1) _ fun vs H2 Hf2 F2 g2 r2 n2 => ?_)
    refine p (v :: vs) H2 Hf2 (F1 ++ F2) (g1.trans g2) ⟨v, vs, F1, F2, rfl, rfl, rep_mono g2.f _ _ _ (fun a _ o q => g2.e a o q) r1, r2⟩ fun z => ?_
    rw [Bool.and_eq_true] at z
    exact New.append (Hf := Hf) (Hf1 := Hf1) g1.e ((n1 z.1).grow g2 (rep_dom _ _ _ r1)) (rep_dom _ _ _ r1) (n2 z.2)
  · cases h
theorem sem_tup {es : List Expr} {es' : Es} {x1 : Nat} {pos : Pos} (ha : SemA L N sc k es es') : SemE L N sc k (.Tuple es x1 pos) (.tup es') := by
  intro X c ρ d fr h Hf0 H0 Hf H σ S Q p
  simp only [ev] at h
  split at h
  · rename_i ds e1
    split at h
    · rename_i hl
      cases h
      refine by_pe (pe_tup (pa_ es)) (ha X c ρ ds true e1 Hf0 H0 Hf H σ S _ fun vs H1 Hf1 F1 g1 r1 n1 => ?_)
      have n := n1 rfl
      have g2 := plus_gr g1 n
      have r2 : repS L.T (plus Hf1 H1 F1) H1 (frzS ds) vs [] := repS_frz (plus_ex n.f) _ _ _ (fun a ha o q => plus_in a ha o q) r1
      exact ⟨size_ok (by rw [repS_len r1]; exact of_decide_eq_true hl), Post.newT (p.grow g2) g2.s r2⟩
    · cases h
  · cases h
theorem sem_lst {es : List Expr} {es' : Es} {pos : Pos} (ha : SemA L N sc k es es') : SemE L N sc k (.List es pos) (.lst es') := by
  intro X c ρ d fr h Hf0 H0 Hf H σ S Q p
  simp only [ev] at h
  split at h
  · rename_i ds e1
    split at h
    · rename_i hl
      cases h
      refine by_pe (pe_lst (pa_ es)) (ha X c ρ ds true e1 Hf0 H0 Hf H σ S _ fun vs H1 Hf1 F1 g1 r1 n1 => ?_)
      have n := n1 rfl
      refine ⟨size_ok (by rw [repS_len r1]; exact of_decide_eq_true hl), fun a ha => ?_⟩
      have g2 : Gr Hf1 H1 Hf1 (upd H1 a (.lst vs)) := .push g1.s ha
      have na : ∀ b ∈ F1, b ≠ a := fun b hb z => by
        obtain ⟨o, q⟩ := repS_dom _ _ _ r1 b hb
        rw [z, ha] at q; cases q
      refine p (.ref a) _ Hf1 (a :: F1) (g1.trans g2) ⟨a, vs, F1, rfl, rfl, upd_same, repS_mono (fun _ _ q => q) _ _ _ (fun b hb o q => g2.e b o q) r1⟩ fun _ => ⟨List.nodup_cons.mpr ⟨fun hm => na a hm rfl, n.nd⟩, fun b hb => ?_, fun b hb => ?_⟩
      · rcases List.mem_cons.mp hb with rfl | hb
        · exact none_back g1.e ha
        · exact n.h b hb
      · rcases List.mem_cons.mp hb with rfl | hb
        · exact none_back g1.s ha
        · exact n.f b hb
    · cases h
  · cases h

/-! ### built-in functions -/
theorem intsOf_some : ∀ {ds : List D} {is : List Int}, intsOf ds = some is → ds = is.map D.int
  | [], _, h => by cases h; rfl
  | d :: r, is, h => by
    cases d with
    | int i =>
      simp only [intsOf] at h
      cases hr : intsOf r with
      | none => rw [hr] at h; cases h
      | some js =>
        rw [hr] at h
        cases h
        rw [intsOf_some hr]
        rfl
    | _ => simp [intsOf] at h
theorem repS_ints {T : Tab} {Hf H : Hp} : ∀ {is : List Int} {xs : List V} {F : List Addr}, repS T Hf H (is.map D.int) xs F → xs = is.map V.int
  | [], _, _, h => h.1
  | i :: r, _, _, ⟨v, vs, F1, F2, e, f, r1, r2⟩ => by
    subst e
    have e2 := r1.1
    subst e2
    rw [repS_ints r2]
    rfl
theorem ints_repS {T : Tab} {Hf H : Hp} : ∀ is : List Int, repS T Hf H (is.map D.int) (is.map V.int) []
  | [] => ⟨rfl, rfl⟩
  | i :: r => ⟨.int i, r.map V.int, [], [], rfl, rfl, ⟨rfl, rfl⟩, ints_repS r⟩
theorem insI_perm (i : Int) : ∀ l : List Int, (insI i l).Perm (i :: l)
  | [] => .refl _
  | j :: r => by
    unfold insI
    split
    · exact .refl _
    · exact (List.Perm.cons j (insI_perm i r)).trans (List.Perm.swap i j r)
theorem insI_mem {i x : Int} {l : List Int} (h : x ∈ insI i l) : x = i ∨ x ∈ l := by
  have := (insI_perm i l).mem_iff.mp h
  simpa using this
theorem insI_sorted (i : Int) : ∀ l : List Int, l.Pairwise (· ≤ ·) → (insI i l).Pairwise (· ≤ ·)
  | [], _ => List.pairwise_cons.mpr ⟨by simp, .nil⟩
  | j :: r, h => by
    unfold insI
    have hj := List.pairwise_cons.mp h
    split
    · rename_i hij
      refine List.pairwise_cons.mpr ⟨fun x hx => ?_, h⟩
      rcases List.mem_cons.mp hx with rfl | hx
      · exact hij
      · have := hj.1 x hx; omega
    · rename_i hij
      refine List.pairwise_cons.mpr ⟨fun x hx => ?_, insI_sorted i r hj.2⟩
      rcases insI_mem hx with rfl | hx
      · omega
      · exact hj.1 x hx
theorem srtI_perm : ∀ l : List Int, (srtI l).Perm l
  | [] => .refl _
  | i :: r => (insI_perm i _).trans (.cons i (srtI_perm r))
theorem srtI_sorted : ∀ l : List Int, (srtI l).Pairwise (· ≤ ·)
  | [] => .nil
  | i :: r => insI_sorted i _ (srtI_sorted r)
theorem sorted_same : ∀ {a b : List Int}, a.Perm b → a.Pairwise (· ≤ ·) → b.Pairwise (· ≤ ·) → a = b
  | [], b, p, _, _ => (List.nil_perm.mp p).symm
  | x :: a, [], p, _, _ => absurd p.length_eq (by simp)
  | x :: a, y :: b, p, ha, hb => by
    have h1 := List.pairwise_cons.mp ha
    have h2 := List.pairwise_cons.mp hb
    have xy : x = y := by
      have m1 : x ∈ y :: b := p.mem_iff.mp List.mem_cons_self
      have m2 : y ∈ x :: a := p.mem_iff.mpr List.mem_cons_self
      rcases List.mem_cons.mp m1 with e | m1
      · exact e
      · rcases List.mem_cons.mp m2 with e | m2
        · exact e.symm
        · have z1 := h2.1 x m1
          have z2 := h1.1 y m2
          omega
    subst xy
    rw [sorted_same (List.Perm.cons_inv p) h1.2 h2.2]
theorem maxI_spec : ∀ {l : List Int} {m : Int}, maxI l = some m → m ∈ l ∧ ∀ y ∈ l, y ≤ m
  | [], _, h => by cases h
  | [i], _, h => by cases h; simp
  | i :: j :: r, m, h => by
    unfold maxI at h
    cases e : maxI (j :: r) with
    | none => rw [e] at h; cases h
    | some n =>
      rw [e] at h
      obtain ⟨h1, h2⟩ := maxI_spec e
      have hm : (if n ≤ i then i else n) = m := by simpa using h
      subst hm
      by_cases c : n ≤ i
      · rw [if_pos c]
        refine ⟨List.mem_cons_self, fun y hy => ?_⟩
        rcases List.mem_cons.mp hy with rfl | hy
        · omega
        · have := h2 y hy; omega
      · rw [if_neg c]
        refine ⟨List.mem_cons_of_mem _ h1, fun y hy => ?_⟩
        rcases List.mem_cons.mp hy with rfl | hy
        · omega
        · exact h2 y hy
theorem minI_spec : ∀ {l : List Int} {m : Int}, minI l = some m → m ∈ l ∧ ∀ y ∈ l, m ≤ y
  | [], _, h => by cases h
  | [i], _, h => by cases h; simp
  | i :: j :: r, m, h => by
    unfold minI at h
    cases e : minI (j :: r) with
    | none => rw [e] at h; cases h
    | some n =>
      rw [e] at h
      obtain ⟨h1, h2⟩ := minI_spec e
      have hm : (if i ≤ n then i else n) = m := by simpa using h
      subst hm
      by_cases c : i ≤ n
      · rw [if_pos c]
        refine ⟨List.mem_cons_self, fun y hy => ?_⟩
        rcases List.mem_cons.mp hy with rfl | hy
        · omega
        · have := h2 y hy; omega
      · rw [if_neg c]
        refine ⟨List.mem_cons_of_mem _ h1, fun y hy => ?_⟩
        rcases List.mem_cons.mp hy with rfl | hy
        · omega
        · exact h2 y hy
/-- a built-in f does on trees what g says -/
def CallT (L : Law) (k : Nat) (f : Value) (g : List D → Option D) : Prop := ∀ X N sc, Cok L N sc k X → sc.hot = false → CallR X f fun xs H Q => ∃ Hf ds F d, Ex Hf H ∧ repS L.T Hf H ds xs F ∧ g ds = some d ∧ Post L.T Hf H d true Q
def g1 (g : D → Option D) : List D → Option D
  | [d] => g d
  | _ => none
theorem repS_1 {T : Tab} {Hf H : Hp} {d : D} {xs : List V} {F : List Addr} (h : repS T Hf H [d] xs F) : ∃ v, xs = [v] ∧ rep T Hf H d v F := by
  obtain ⟨v, vs, F1, F2, e, f, r, e2, f2⟩ := h
  subst e; subst e2; subst f2; subst f
  rw [List.append_nil]
  exact ⟨v, rfl, r⟩
theorem repS_2 {T : Tab} {Hf H : Hp} {d d' : D} {xs : List V} {F : List Addr} (h : repS T Hf H [d, d'] xs F) : ∃ v w F1 F2, xs = [v, w] ∧ rep T Hf H d v F1 ∧ rep T Hf H d' w F2 := by
  obtain ⟨v, vs, F1, F2, e, f, r, r2⟩ := h
  obtain ⟨w, e2, q2⟩ := repS_1 r2
  subst e; subst e2
  exact ⟨v, w, F1, F2, rfl, r, q2⟩
theorem one_inv {g : D → Option D} {ds : List D} {d : D} (h : one g ds = some d) : ∃ x, ds = [x] ∧ g x = some d := by
  unfold one at h
  split at h
  · exact ⟨_, rfl, h⟩
  · cases h
theorem two_inv {g : D → D → Option D} {ds : List D} {d : D} (h : two2 g ds = some d) : ∃ x y, ds = [x, y] ∧ g x y = some d := by
  unfold two2 at h
  split at h
  · exact ⟨_, _, rfl, h⟩
  · cases h
/-- a built-in of one argument -/
theorem callT_1 {f : Value} {g : D → Option D} (h : ∀ X N sc, Cok L N sc k X → sc.hot = false → ∀ (pins : List (Addr × Obj)) (s : Shared) (σ : L2.St) (Hf H : Hp) (x : V) (us : List Value) (y d : D) (F : List Addr) (Q : VK), Inv X pins σ H s → Vals [x] us → Ex Hf H → rep L.T Hf H y x F → g y = some d → Post L.T Hf H d true Q →
    wpAny (model X.prog X.w) X.A (PySem.call f us) (EP X pins σ Q) X.xe s) : CallT L k f (one g) := by
  intro X N sc c hh pins s σ H xs us Q I rx ⟨Hf, ds, F, d, e, r, hd, p⟩
  obtain ⟨y, rfl, hd⟩ := one_inv hd
  obtain ⟨v, e2, q⟩ := repS_1 r
  subst e2
  exact h X N sc c hh pins s σ Hf H v us y d F Q I rx e q hd p
theorem callT_len : CallT L k (.builtin "len") (bltD .len) := callT_1 fun X N sc c hh pins s σ Hf H x us y d F Q I rx e r hd p => by
  unfold lenD at hd
  split at hd
  · cases hd
    obtain ⟨a, xs, G, rfl, q, r⟩ := rep_lst e r
    exact call_len pins s σ H _ us Q I rx ⟨_, _, rfl, .inl ⟨xs, c.hK ▸ q, rfl⟩, by rw [repS_len r]; exact p.flat (.refl e) rfl⟩
  · cases hd
    obtain ⟨a, xs, rfl, q, r⟩ := rep_tup e r
    exact call_len pins s σ H _ us Q I rx ⟨_, _, rfl, .inr ⟨xs, c.hK ▸ q, rfl⟩, by rw [repS_len r]; exact p.flat (.refl e) rfl⟩
  · cases hd
theorem callT_int : CallT L k (.type "int") (bltD .int) := callT_1 fun X N sc c hh pins s σ Hf H x us y d F Q I rx e r hd p => by
  unfold intD at hd
  split at hd
  · cases hd; have e2 := r.1; subst e2; exact call_int1 pins s σ H _ us Q I rx (.inl ⟨_, rfl, p.flat (.refl e) rfl⟩)
  · cases hd; have e2 := r.1; subst e2; exact call_int1 pins s σ H _ us Q I rx (.inr ⟨_, rfl, p.flat (.refl e) rfl⟩)
  · cases hd
theorem callT_bool : CallT L k (.type "bool") (bltD .bool) := callT_1 fun X N sc c hh pins s σ Hf H x us y d F Q I rx e r hd p => by
  unfold boolD at hd
  split at hd
  · cases hd; have e2 := r.1; subst e2; exact call_bool1 pins s σ H _ us Q I rx (.inl ⟨_, rfl, p.flat (.refl e) rfl⟩)
  · cases hd; have e2 := r.1; subst e2; exact call_bool1 pins s σ H _ us Q I rx (.inr ⟨_, rfl, p.flat (.refl e) rfl⟩)
  · cases hd
theorem callT_tuple : CallT L k (.type "tuple") (bltD .tuple) := callT_1 fun X N sc c hh pins s σ Hf H x us y d F Q I rx e r hd p => by
  unfold tupleD at hd
  split at hd
  · split at hd
    · rename_i hz
      cases hd
      obtain ⟨a, xs, G, rfl, q, r⟩ := rep_lst e r
      exact call_tuple_of pins s σ H _ us Q I rx ⟨a, xs, rfl, .inl ⟨c.hK ▸ q, p.newT e (repS_fz r hz)⟩⟩
    · cases hd
  · cases hd
    have r0 := r
    obtain ⟨a, xs, rfl, q, r⟩ := rep_tup e r
    exact call_tuple_of pins s σ H _ us Q I rx ⟨a, xs, rfl, .inr ⟨c.hK ▸ q, p.ret (.refl e) r0 fun _ => by rw [fz_nil r0 rfl]; exact New.nil⟩⟩
  · cases hd
theorem callT_list : CallT L k (.type "list") (bltD .list) := callT_1 fun X N sc c hh pins s σ Hf H x us y d F Q I rx e r hd p => by
  unfold listD at hd
  split at hd
  · rename_i ds hs
    split at hd
    · rename_i hz
      cases hd
      obtain ⟨a, xs, G, rfl, q, r⟩ := rep_seq e r hs
      exact call_list_of pins s σ H _ us Q I rx ⟨a, xs, rfl, c.hK ▸ q, p.newL e (repS_fz r hz)⟩
    · cases hd
  · cases hd
theorem lstI_inv {T : Tab} {Hf H : Hp} {x : D} {v : V} {F : List Addr} {is : List Int} (e : Ex Hf H) (r : rep T Hf H x v F) (h : lstI x = some is) : ∃ a, v = .ref a ∧ SqL T.K H a (is.map V.int) := by
  unfold lstI at h
  split at h
  · obtain ⟨a, xs, G, rfl, q, r⟩ := rep_lst e r
    have e1 := intsOf_some h
    subst e1
    rw [repS_ints r] at q
    exact ⟨a, rfl, q⟩
  · cases h
theorem callT_sorted : CallT L k (.builtin "sorted") (bltD .sorted) := callT_1 fun X N sc c hh pins s σ Hf H x us y d F Q I rx e r hd p => by
  unfold sortedD at hd
  cases hl : lstI y with
  | none => rw [hl] at hd; cases hd
  | some is =>
    rw [hl] at hd
    cases hd
    obtain ⟨a, rfl, q⟩ := lstI_inv e r hl
    refine cr_sortedI pins s σ H _ us Q I rx ⟨a, is, rfl, c.hK ▸ q, fun ns' a2 pe so ha => ?_⟩
    have e1 : ns' = srtI is := sorted_same (pe.trans (srtI_perm is).symm) so (srtI_sorted is)
    subst e1
    exact p.newL e (ints_repS _) a2 ha
theorem maxI_none : ∀ {l : List Int}, maxI l = none → l = []
  | [], _ => rfl
  | [i], h => by cases h
  | i :: j :: r, h => by
    unfold maxI at h
    cases e : maxI (j :: r) with
    | none => exact absurd (maxI_none e) (by simp)
    | some n => rw [e] at h; cases h
theorem callT_max1 : CallT L k (.builtin "max") (bltD .max1) := callT_1 fun X N sc c hh pins s σ Hf H x us y d F Q I rx e r hd p => by
  unfold max1D at hd
  cases hl : lstI y with
  | none => rw [hl] at hd; cases hd
  | some is =>
    rw [hl] at hd
    cases hm : maxI is with
    | none => simp [hm] at hd
    | some m =>
      simp [hm] at hd
      subst hd
      obtain ⟨a, rfl, q⟩ := lstI_inv e r hl
      obtain ⟨h1, h2⟩ := maxI_spec hm
      refine cr_max (c.calm hh) pins s σ H _ us Q I rx ⟨a, is, rfl, c.hK ▸ q, by cases is with | nil => cases h1 | cons _ _ => simp, fun m' h3 h4 => ?_⟩
      have e1 : m' = m := by have := h4 m h1; have := h2 m' h3; omega
      subst e1
      exact p.flat (.refl e) rfl
theorem callT_min1 : CallT L k (.builtin "min") (bltD .min1) := callT_1 fun X N sc c hh pins s σ Hf H x us y d F Q I rx e r hd p => by
  unfold min1D at hd
  cases hl : lstI y with
  | none => rw [hl] at hd; cases hd
  | some is =>
    rw [hl] at hd
    cases hm : minI is with
    | none => simp [hm] at hd
    | some m =>
      simp [hm] at hd
      subst hd
      obtain ⟨a, rfl, q⟩ := lstI_inv e r hl
      obtain ⟨h1, h2⟩ := minI_spec hm
      refine cr_min (c.calm hh) pins s σ H _ us Q I rx ⟨a, is, rfl, c.hK ▸ q, by cases is with | nil => cases h1 | cons _ _ => simp, fun m' h3 h4 => ?_⟩
      have e1 : m' = m := by have := h4 m h1; have := h2 m' h3; omega
      subst e1
      exact p.flat (.refl e) rfl
theorem callT_sum : CallT L k (.builtin "sum") (bltD .sum) := callT_1 fun X N sc c hh pins s σ Hf H x us y d F Q I rx e r hd p => by
  unfold sumD at hd
  cases hl : lstI y with
  | none => rw [hl] at hd; cases hd
  | some is =>
    rw [hl] at hd
    cases hd
    obtain ⟨a, rfl, q⟩ := lstI_inv e r hl
    exact cr_sum (c.calm hh) pins s σ H _ us Q I rx ⟨a, is, rfl, c.hK ▸ q, p.flat (.refl e) rfl⟩
theorem callT_abs : CallT L k (.builtin "abs") (bltD .abs) := callT_1 fun X N sc c hh pins s σ Hf H x us y d F Q I rx e r hd p => by
  unfold absD at hd
  split at hd
  · cases hd; have e2 := r.1; subst e2; exact call_abs pins s σ H _ us Q I rx ⟨_, rfl, p.flat (.refl e) rfl⟩
  · cases hd
theorem callT_max2 : CallT L k (.builtin "max") (bltD .max2) := by
  intro X N sc c hh pins s σ H xs us Q I rx ⟨Hf, ds, F, d, e, r, hd, p⟩
  obtain ⟨x, y, rfl, hd2⟩ := two_inv (show two2 max2D ds = some d from hd)
  obtain ⟨v, w, F1, F2, rfl, r1, r2⟩ := repS_2 r
  unfold max2D at hd2
  split at hd2
  · cases hd2; have e1 := r1.1; have e2 := r2.1; subst e1; subst e2; exact call_max2 (c.calm hh) pins s σ H _ us Q I rx ⟨_, _, rfl, p.flat (.refl e) rfl⟩
  · cases hd2
theorem callT_min2 : CallT L k (.builtin "min") (bltD .min2) := by
  intro X N sc c hh pins s σ H xs us Q I rx ⟨Hf, ds, F, d, e, r, hd, p⟩
  obtain ⟨x, y, rfl, hd2⟩ := two_inv (show two2 min2D ds = some d from hd)
  obtain ⟨v, w, F1, F2, rfl, r1, r2⟩ := repS_2 r
  unfold min2D at hd2
  split at hd2
  · cases hd2; have e1 := r1.1; have e2 := r2.1; subst e1; subst e2; exact call_min2 (c.calm hh) pins s σ H _ us Q I rx ⟨_, _, rfl, p.flat (.refl e) rfl⟩
  · cases hd2
/-- the rows for a built-in by its name -/
theorem sem_blt {e : Expr} {es : List Expr} {es' : Es} {b : Bn} {id : String} {x : Str} {p0 pos : Pos} (hc : CallT L k (.builtin id) (bltG L.G b)) (hg : sc.names.lookup x = some .globalImplicit) (hm : L.mg x = none) (hv : bootBuiltins x = some (.builtin id))
    (hn : x ≠ "__name__") (hdb : (x == ("__debug__" : Str)) = false) (hs : ∀ env, starEach (e :: es) env = (false, eval e env) :: starEach es env) (hpl : ∀ pos env, (backTo pos (starEach es env)).any (·.1) = false) (ha : SemA L N sc k (e :: es) es') (hh : sc.hot = false := by rfl) :
    SemE L N sc k (.Call (.Name x p0) (e :: es) [] pos) (.blt b es') := by
  intro X c ρ d fr h Hf0 H0 Hf H σ S Q p
  simp only [ev] at h
  split at h
  · rename_i ds f e1
    cases hd : bltG L.G b ds with
    | none => rw [hd] at h; cases h
    | some d' =>
      rw [hd] at h
      cases h
      exact by_pe (pe_callB (hc X N sc c hh) (show X.env.scope.names.lookup x = some .globalImplicit by rw [c.hsc]; exact hg) (by rw [c.hmg]; exact hm) hv (pa_ _) hn hdb (hs _) (hpl _ _)) (ha X c ρ ds f e1 Hf0 H0 Hf H σ S _ fun vs H1 Hf1 F1 g1 r1 n1 => ⟨Hf1, ds, F1, _, g1.s, r1, hd, p.grow g1⟩)
  · cases h
theorem sem_bltT {e : Expr} {es : List Expr} {es' : Es} {b : Bn} {id : String} {x : Str} {p0 pos : Pos} (hc : CallT L k (.type id) (bltG L.G b)) (hg : sc.names.lookup x = some .globalImplicit) (hm : L.mg x = none) (hv : bootBuiltins x = some (.type id))
    (hn : x ≠ "__name__") (hdb : (x == ("__debug__" : Str)) = false) (hs : ∀ env, starEach (e :: es) env = (false, eval e env) :: starEach es env) (hpl : ∀ pos env, (backTo pos (starEach es env)).any (·.1) = false) (ha : SemA L N sc k (e :: es) es') (hh : sc.hot = false := by rfl) :
    SemE L N sc k (.Call (.Name x p0) (e :: es) [] pos) (.blt b es') := by
  intro X c ρ d fr h Hf0 H0 Hf H σ S Q p
  simp only [ev] at h
  split at h
  · rename_i ds f e1
    cases hd : bltG L.G b ds with
    | none => rw [hd] at h; cases h
    | some d' =>
      rw [hd] at h
      cases h
      exact by_pe (pe_callTy (hc X N sc c hh) (show X.env.scope.names.lookup x = some .globalImplicit by rw [c.hsc]; exact hg) (by rw [c.hmg]; exact hm) hv (pa_ _) hn hdb (hs _) (hpl _ _)) (ha X c ρ ds f e1 Hf0 H0 Hf H σ S _ fun vs H1 Hf1 F1 g1 r1 n1 => ⟨Hf1, ds, F1, _, g1.s, r1, hd, p.grow g1⟩)
  · cases h
end
end Z

/-! Z8: what a loop walks; comprehensions. -/
namespace Z
open PySem PySem.Spec PyProof.Rows L2
open Evl (Ex ex_l ex_t ex_rd)

section
variable {L : Law} {N : List Str} {sc : Sc} {k : Nat}
theorem Cok.gl {X : Cx} (c : Cok L N sc k X) {x : Str} (hg : sc.names.lookup x = some .globalImplicit) : Gl X x := by
  show X.env.scope.names.lookup x = some .globalImplicit
  rw [c.hsc]; exact hg
/-- what is known of an iterator over these items -/
structure ItOk (T : Tab) (Hf H : Hp) (items : List D) (J : L2.It) (H' Hf' : Hp) : Prop where
  gr : Gr Hf H Hf' H'
  walk : ∃ GG Y, Walk J items.length GG Y ∧ (∀ H2, Ex Hf' H2 → GG H2) ∧
    ∀ i d H1 Hf1 x H2, items[i]? = some d → Ex Hf' Hf1 → Ex Hf1 H1 → Y i H1 x H2 → ∃ Hf2, Gr Hf1 H1 Hf2 H2 ∧ rep T Hf2 H2 d x []
def SemI (L : Law) (N : List Str) (sc : Sc) (k : Nat) (tg iter : Expr) (it : It) : Prop :=
  ∀ X, Cok L N sc k X → ∀ ρ items, evI L.G it ρ = some items → ∀ Hf0 H0 Hf H σ, StOk L.T Hf0 H0 Hf H ρ σ →
    ∃ wi, PI X tg iter wi ∧ ∀ R : L2.It → Hp → Prop, (∀ J H' Hf', ItOk L.T Hf H items J H' Hf' → R J H') → wi σ H R
/-- a frozen row, as it is read -/
theorem frozen {T : Tab} {Hf H Hf1 H1 : Hp} {d : D} {v : V} {F : List Addr} (g : Gr Hf H Hf1 H1) (r : rep T Hf1 H1 d v F) (n : New H Hf1 F) : ∃ Hf2, Gr Hf H Hf2 H1 ∧ rep T Hf2 H1 (frz d) v [] ∧ Ex Hf1 Hf2 :=
  ⟨plus Hf1 H1 F, plus_gr g n, rep_frz (plus_ex n.f) _ _ _ (fun a ha o q => plus_in a ha o q) r, plus_ex n.f⟩
theorem frz_seq {T : Tab} {Hf H : Hp} {d : D} {v : V} {ds : List D} (r : rep T Hf H (frz d) v []) (e : seqD (frz d) = some ds) : ∃ a xs, v = .ref a ∧ ((∃ m es, d = .lst m es) ∧ SqL T.K Hf a xs ∨ (∃ es, d = .tup es) ∧ SqT T.K Hf a xs) ∧ repS T Hf H ds xs [] := by
  cases d with
  | lst m es => cases m with
    | own => cases e; obtain ⟨a, xs, e1, _, q, r⟩ := r; exact ⟨a, xs, e1, .inl ⟨⟨_, _, rfl⟩, .inl q⟩, r⟩
    | fz => cases e; obtain ⟨a, xs, e1, _, q, r⟩ := r; exact ⟨a, xs, e1, .inl ⟨⟨_, _, rfl⟩, .inl q⟩, r⟩
    | ro => cases e; obtain ⟨a, xs, e1, _, q, r⟩ := r; exact ⟨a, xs, e1, .inl ⟨⟨_, _, rfl⟩, q⟩, r⟩
  | tup es => cases e; obtain ⟨a, xs, e1, _, q, r⟩ := r; exact ⟨a, xs, e1, .inr ⟨⟨_, rfl⟩, q⟩, r⟩
  | _ => cases e
theorem repS_at {T : Tab} {Hf H : Hp} {ds : List D} {xs : List V} {i : Nat} {d : D} {x : V} (r : repS T Hf H ds xs []) (h : ds[i]? = some d) (hx : xs[i]? = some x) : rep T Hf H d x [] := by
  obtain ⟨v, G, h1, h2, h3⟩ := repS_get r h
  rw [hx] at h1
  cases h1
  have e : G = [] := by
    cases G with
    | nil => rfl
    | cons a b => exact absurd (h3 a List.mem_cons_self) (by simp)
  subst e
  exact h2
theorem itOk_list {T : Tab} {Hf H Hf1 H1 : Hp} {ds : List D} {xs : List V} {a : Addr} (g : Gr Hf H Hf1 H1) (q : SqL T.K Hf1 a xs) (r : repS T Hf1 H1 ds xs []) : ItOk T Hf H ds (Itl T.K a) H1 Hf1 := by
  refine ⟨g, _, _, by rw [← repS_len r]; exact walk_list (xs := xs), fun H2 e => ex_l e q, fun i d H3 Hf3 x H4 hd e1 e2 y => ?_⟩
  obtain ⟨rfl, hx⟩ := y
  exact ⟨Hf3, .refl e2, repS_at (repS_mono e1 _ _ _ (fun _ hb => by cases hb) r) hd hx⟩
theorem itOk_tup {T : Tab} {Hf H Hf1 H1 : Hp} {ds : List D} {xs : List V} {a : Addr} (g : Gr Hf H Hf1 H1) (q : SqT T.K Hf1 a xs) (r : repS T Hf1 H1 ds xs []) : ItOk T Hf H ds (Itt T.K a) H1 Hf1 := by
  refine ⟨g, _, _, by rw [← repS_len r]; exact walk_tup (xs := xs), fun H2 e => ex_t e q, fun i d H3 Hf3 x H4 hd e1 e2 y => ?_⟩
  obtain ⟨rfl, hx⟩ := y
  exact ⟨Hf3, .refl e2, repS_at (repS_mono e1 _ _ _ (fun _ hb => by cases hb) r) hd hx⟩
theorem semI_lst {tg e : Expr} {e' : E} (he : SemE L N sc k e e') : SemI L N sc k tg e (.lst e') := by
  intro X c ρ items h Hf0 H0 Hf H σ S
  simp only [evI] at h
  split at h
  · rename_i d hd
    have seq : (∃ m es, d = .lst m es) ∨ (∃ es, d = .tup es) := by
      cases d with
      | lst m es => exact .inl ⟨_, _, rfl⟩
      | tup es => exact .inr ⟨_, rfl⟩
      | _ => cases h
    rcases seq with ⟨m, es, rfl⟩ | ⟨es, rfl⟩
    · refine ⟨_, pi_list (pe_ e), fun R k2 => he X c ρ _ true hd Hf0 H0 Hf H σ S _ fun v H1 Hf1 F1 g1 r1 n1 => ?_⟩
      obtain ⟨Hf2, g2, r2, e2⟩ := frozen g1 r1 (n1 rfl)
      obtain ⟨a, xs, rfl, hq, r3⟩ := frz_seq r2 h
      rcases hq with ⟨_, q⟩ | ⟨⟨_, z⟩, _⟩
      · exact ⟨a, rfl, ⟨xs, c.hK ▸ ex_l g2.s q⟩, c.hK ▸ k2 _ H1 Hf2 (itOk_list g2 q r3)⟩
      · cases z
    · refine ⟨_, pi_tup (pe_ e), fun R k2 => he X c ρ _ true hd Hf0 H0 Hf H σ S _ fun v H1 Hf1 F1 g1 r1 n1 => ?_⟩
      obtain ⟨Hf2, g2, r2, e2⟩ := frozen g1 r1 (n1 rfl)
      obtain ⟨a, xs, rfl, hq, r3⟩ := frz_seq r2 h
      rcases hq with ⟨⟨_, _, z⟩, _⟩ | ⟨_, q⟩
      · cases z
      · exact ⟨a, rfl, ⟨xs, c.hK ▸ ex_t g2.s q⟩, c.hK ▸ k2 _ H1 Hf2 (itOk_tup g2 q r3)⟩
  · cases h
theorem rngD_len : ∀ (lo : Int) (n : Nat), (rngD lo n).length = n
  | _, 0 => rfl
  | lo, n + 1 => by unfold rngD; rw [List.length_cons, rngD_len]
theorem rngD_get : ∀ (lo : Int) (n i : Nat), i < n → (rngD lo n)[i]? = some (.int (lo + i))
  | _, 0, _, h => absurd h (Nat.not_lt_zero _)
  | lo, n + 1, 0, _ => by unfold rngD; simp
  | lo, n + 1, i + 1, h => by
    unfold rngD
    rw [List.getElem?_cons_succ, rngD_get (lo + 1) n i (Nat.lt_of_succ_lt_succ h)]
    congr 2
    omega
theorem rngOk_c {a b : Int} (h : rngOk a b = true) : -(2 ^ 62) ≤ a ∧ a < 2 ^ 62 ∧ -(2 ^ 62) ≤ b ∧ b < 2 ^ 62 := by
  unfold rngOk at h
  simp only [Bool.and_eq_true, decide_eq_true_eq] at h
  exact ⟨h.1.1.1, h.1.1.2, h.1.2, h.2⟩
theorem itOk_rng {T : Tab} {Hf H Hf1 H1 : Hp} (g : Gr Hf H Hf1 H1) (lo : Int) (n : Nat) : ItOk T Hf H (rngD lo n) (Itr lo n) H1 Hf1 := by
  refine ⟨g, _, _, by rw [rngD_len]; exact walk_range, fun _ _ => trivial, fun i d H3 Hf3 x H4 hd e1 e2 y => ?_⟩
  obtain ⟨rfl, hx⟩ := y
  subst hx
  have hi : i < n := by
    have := (List.getElem?_eq_some_iff.mp hd).1
    rw [rngD_len] at this
    exact this
  rw [rngD_get lo n i hi] at hd
  cases hd
  exact ⟨Hf3, .refl e2, ⟨rfl, rfl⟩⟩
theorem semI_rng1 {tg a : Expr} {a' : E} {p pos : Pos} (hg : sc.names.lookup ("range" : Str) = some .globalImplicit) (hm : L.mg "range" = none) (hs : ∀ env, starEach [a] env = [(false, eval a env)]) (ha : SemE L N sc k a a') :
    SemI L N sc k tg (.Call (.Name "range" p) [a] [] pos) (.rng1 a') := by
  intro X c ρ items h Hf0 H0 Hf H σ S
  simp only [evI] at h
  split at h
  · rename_i j f hd
    split at h
    · rename_i ho
      cases h
      obtain ⟨_, _, o3, o4⟩ := rngOk_c ho
      refine ⟨_, pi_range1 (c.gl hg) (by rw [c.hmg]; exact hm) (pa_cons (pe_ a) pa_nil (by rw [hs]; rfl)) (hs _), fun R k2 =>
        ha X c ρ _ f hd Hf0 H0 Hf H σ S _ fun v H1 Hf1 F1 g1 r1 n1 => ⟨j, by rw [r1.1], o3, o4, k2 _ H1 Hf1 (itOk_rng g1 0 _)⟩⟩
    · cases h
  · cases h
theorem semI_rng2 {tg a b : Expr} {a' b' : E} {p pos : Pos} (hg : sc.names.lookup ("range" : Str) = some .globalImplicit) (hm : L.mg "range" = none) (hs : ∀ env, starEach [a, b] env = [(false, eval a env), (false, eval b env)]) (hs2 : ∀ env, starEach [b] env = [(false, eval b env)])
    (ha : SemE L N sc k a a') (hb : SemE L N sc k b b') : SemI L N sc k tg (.Call (.Name "range" p) [a, b] [] pos) (.rng2 a' b') := by
  intro X c ρ items h Hf0 H0 Hf H σ S
  simp only [evI] at h
  split at h
  · rename_i i f1 j f2 h1 h2
    split at h
    · rename_i ho
      cases h
      obtain ⟨o1, o2, o3, o4⟩ := rngOk_c ho
      refine ⟨_, pi_range2 (c.gl hg) (by rw [c.hmg]; exact hm) (pa_cons (pe_ a) (pa_cons (pe_ b) pa_nil (by rw [hs2]; rfl)) (by rw [hs, hs2])) (hs _) (hs2 _), fun R k2 =>
        two ha hb c h1 h2 S fun v u H1 Hf1 F1 F2 g1 r1 r2 => ⟨i, j, by rw [r1.1, r2.1], ⟨o1, o2, o3, o4⟩, k2 _ H1 Hf1 (itOk_rng g1 i _)⟩⟩
    · cases h
  · cases h
theorem enumD_get : ∀ (c : Int) (ds : List D) (i : Nat), (enumD c ds)[i]? = (ds[i]?).map fun d => .tup [.int (c + i), d]
  | _, [], _ => rfl
  | c, d :: r, 0 => by simp [enumD]
  | c, d :: r, i + 1 => by
    unfold enumD
    rw [List.getElem?_cons_succ, List.getElem?_cons_succ, enumD_get (c + 1) r i]
    have e : c + 1 + (i : Int) = c + ((i + 1 : Nat) : Int) := by omega
    rw [e]
theorem enumD_len : ∀ (c : Int) (ds : List D), (enumD c ds).length = ds.length
  | _, [] => rfl
  | c, d :: r => by unfold enumD; rw [List.length_cons, List.length_cons, enumD_len]
/-- a new pair of two frozen things -/
theorem pair_new {T : Tab} {Hf H : Hp} {x y : V} {d e : D} {a : Addr} (s : Ex Hf H) (ha : H a = none) (r1 : rep T Hf H d x []) (r2 : rep T Hf H e y []) : Gr Hf H (upd Hf a (.tup [x, y])) (upd H a (.tup [x, y])) ∧ rep T (upd Hf a (.tup [x, y])) (upd H a (.tup [x, y])) (.tup [d, e]) (.ref a) [] := by
  have g : Gr Hf H (upd Hf a (.tup [x, y])) (upd H a (.tup [x, y])) := .pushF s ha
  exact ⟨g, a, [x, y], rfl, rfl, .of upd_same, x, [y], [], [], rfl, rfl, rep_mono g.f _ _ _ (fun _ hb => by cases hb) r1, y, [], [], [], rfl, rfl, rep_mono g.f _ _ _ (fun _ hb => by cases hb) r2, rfl, rfl⟩
theorem semI_enumL {elts : List Expr} {kk : Nat} {tpos : Pos} {e : Expr} {e' : E} {p pos : Pos} (hg : sc.names.lookup ("enumerate" : Str) = some .globalImplicit) (hm : L.mg "enumerate" = none) (hs : ∀ env, starEach [e] env = [(false, eval e env)]) (he : SemE L N sc k e e')
    (X : Cx) (c : Cok L N sc k X) {ρ : Rho} {m : M} {es ds : List D} (hd : ev L.G e' ρ = some (.lst m es, true)) (h : seqD (frz (.lst m es)) = some ds) {Hf0 H0 Hf H : Hp} {σ : L2.St} (S : StOk L.T Hf0 H0 Hf H ρ σ) :
    ∃ wi, PI X (.Tuple elts kk tpos) (.Call (.Name "enumerate" p) [e] [] pos) wi ∧ ∀ R : L2.It → Hp → Prop, (∀ J H' Hf', ItOk L.T Hf H (enumD 0 ds) J H' Hf' → R J H') → wi σ H R := by
  refine ⟨_, pi_enum (c.gl hg) (by rw [c.hmg]; exact hm) (pa_cons (pe_ e) pa_nil (by rw [hs]; rfl)) (hs _), fun R k2 =>
    he X c ρ _ true hd Hf0 H0 Hf H σ S _ fun v H1 Hf1 F1 g1 r1 n1 => ?_⟩
  obtain ⟨Hf2, g2, r2, e2⟩ := frozen g1 r1 (n1 rfl)
  obtain ⟨a, xs, rfl, hq, r3⟩ := frz_seq r2 h
  rcases hq with ⟨_, q⟩ | ⟨⟨_, z⟩, _⟩
  · refine ⟨a, xs, rfl, c.hK ▸ ex_l g2.s q, c.hK ▸ k2 _ H1 Hf2 ⟨g2, _, _, by rw [enumD_len, ← repS_len r3]; exact walk_enum (xs := xs), fun H2 e => ex_l e q, fun i d H3 Hf3 x H4 hd e1 e2 y => ?_⟩⟩
    obtain ⟨t, x1, x2, rfl, ht, rfl, h1, h2⟩ := y
    cases h1
    rw [enumD_get] at hd
    cases hi : ds[i]? with
    | none => rw [hi] at hd; cases hd
    | some d0 =>
      rw [hi] at hd
      have hd' : D.tup [.int (0 + (i : Int)), d0] = d := by simpa using hd
      subst hd'
      have e0 : (0 : Int) + (i : Int) = (i : Nat) := by omega
      rw [e0]
      have r4 := repS_at (repS_mono (H' := H3) e1 _ _ _ (fun _ hb => by cases hb) r3) hi h2
      obtain ⟨g5, r5⟩ := pair_new e2 ht (T := L.T) (d := .int (i : Nat)) ⟨rfl, rfl⟩ r4
      exact ⟨_, g5, r5⟩
  · cases z
theorem zipD_get : ∀ (ds es : List D) (i : Nat) (x y : D), ds[i]? = some x → es[i]? = some y → (zipD ds es)[i]? = some (.tup [x, y])
  | [], _, _, _, _, h, _ => by simp at h
  | _ :: _, [], _, _, _, _, h => by simp at h
  | d :: ds, e :: es, 0, x, y, h1, h2 => by cases h1; cases h2; rfl
  | d :: ds, e :: es, i + 1, x, y, h1, h2 => by
    show (zipD ds es)[i]? = _
    exact zipD_get ds es i x y (by simpa using h1) (by simpa using h2)
theorem zipD_len : ∀ ds es : List D, (zipD ds es).length = min ds.length es.length
  | [], _ => by simp [zipD]
  | _ :: _, [] => by simp [zipD]
  | d :: ds, e :: es => by
    show (zipD ds es).length + 1 = _
    rw [zipD_len ds es]
    simp only [List.length_cons]
    omega
theorem semI_zipL {elts : List Expr} {kk : Nat} {tpos : Pos} {a b : Expr} {a' b' : E} {p pos : Pos} (hg : sc.names.lookup ("zip" : Str) = some .globalImplicit) (hm : L.mg "zip" = none) (hs : ∀ env, starEach [a, b] env = (false, eval a env) :: starEach [b] env) (hs2 : ∀ env, starEach [b] env = [(false, eval b env)])
    (hpl : ∀ pos env, (backTo pos (starEach [b] env)).any (·.1) = false) (ha : SemE L N sc k a a') (hb : SemE L N sc k b b')
    (X : Cx) (c : Cok L N sc k X) {ρ : Rho} {m m' : M} {as bs ds es : List D} (h1 : ev L.G a' ρ = some (.lst m as, true)) (h2 : ev L.G b' ρ = some (.lst m' bs, true)) (e1 : seqD (frz (.lst m as)) = some ds) (e2 : seqD (frz (.lst m' bs)) = some es)
    {Hf0 H0 Hf H : Hp} {σ : L2.St} (S : StOk L.T Hf0 H0 Hf H ρ σ) :
    ∃ wi, PI X (.Tuple elts kk tpos) (.Call (.Name "zip" p) [a, b] [] pos) wi ∧ ∀ R : L2.It → Hp → Prop, (∀ J H' Hf', ItOk L.T Hf H (zipD ds es) J H' Hf' → R J H') → wi σ H R := by
  refine ⟨_, pi_zip (c.gl hg) (by rw [c.hmg]; exact hm) (pa_cons (pe_ a) (pa_cons (pe_ b) pa_nil (by rw [hs2]; rfl)) (hs _)) (hs _) (hpl _ _), fun R k2 =>
    ha X c ρ _ true h1 Hf0 H0 Hf H σ S _ fun v H1 Hf1 F1 g1 r1 n1 => hb X c ρ _ true h2 Hf0 H0 Hf1 H1 σ (S.grow g1) _ fun u H2 Hf2 F2 g2 r2 n2 => ?_⟩
  have r1' := rep_mono g2.f _ _ _ (fun a _ o q => g2.e a o q) r1
  have n1' := (n1 rfl).grow g2 (rep_dom _ _ _ r1)
  have nn : New H Hf2 (F1 ++ F2) := New.append (Hf := Hf) (Hf1 := Hf1) g1.e n1' (rep_dom _ _ _ r1) (n2 rfl)
  have r0 : repS L.T Hf2 H2 [.lst m as, .lst m' bs] [v, u] (F1 ++ F2) := ⟨v, [u], F1, F2, rfl, rfl, r1', u, [], F2, [], rfl, by rw [List.append_nil], r2, rfl, rfl⟩
  have g3 := plus_gr (g1.trans g2) nn
  have r3 : repS L.T (plus Hf2 H2 (F1 ++ F2)) H2 (frzS [.lst m as, .lst m' bs]) [v, u] [] := repS_frz (plus_ex nn.f) _ _ _ (fun a ha o q => plus_in a ha o q) r0
  obtain ⟨v', w', G1, G2, ev, rv, rw'⟩ := repS_2 r3
  cases ev
  have z1 := fz_nil rv (frz_fz _)
  have z2 := fz_nil rw' (frz_fz _)
  subst z1; subst z2
  obtain ⟨a1, xs, rfl, hq1, q1⟩ := frz_seq rv e1
  obtain ⟨a2, ys, rfl, hq2, q2⟩ := frz_seq rw' e2
  rcases hq1 with ⟨_, hq1⟩ | ⟨⟨_, z⟩, _⟩
  · rcases hq2 with ⟨_, hq2⟩ | ⟨⟨_, z⟩, _⟩
    · have ok : ItOk L.T Hf H (zipD ds es) (Itz L.T.K a1 a2) H2 (plus Hf2 H2 (F1 ++ F2)) := by
        refine ⟨g3, _, _, by rw [zipD_len]; exact walk_zip (xs := xs) (ys := ys) (by rw [repS_len q1, repS_len q2]), fun H4 e => And.intro (ex_l e hq1) (ex_l e hq2), fun i d H3 Hf3 x H4 hd e3 e4 y => ?_⟩
        obtain ⟨t, x1, x2, rfl, ht, rfl, h3, h4⟩ := y
        have l1 := (List.getElem?_eq_some_iff.mp h3).1
        have l2 := (List.getElem?_eq_some_iff.mp h4).1
        rw [repS_len q1] at l1
        rw [repS_len q2] at l2
        have d1 : ds[i]? = some ds[i] := List.getElem?_eq_getElem l1
        have d2 : es[i]? = some es[i] := List.getElem?_eq_getElem l2
        rw [zipD_get ds es i _ _ d1 d2] at hd
        cases hd
        obtain ⟨g5, r5⟩ := pair_new e4 ht (T := L.T) (repS_at (repS_mono (H' := H3) e3 _ _ _ (fun _ hb => by cases hb) q1) d1 h3) (repS_at (repS_mono (H' := H3) e3 _ _ _ (fun _ hb => by cases hb) q2) d2 h4)
        exact ⟨_, g5, r5⟩
      exact ⟨a1, a2, xs, ys, rfl, c.hK ▸ ex_l g3.s hq1, c.hK ▸ ex_l g3.s hq2, by rw [c.hK]; exact k2 _ H2 _ ok⟩
    · cases z
  · cases z
end
end Z

/-! Z9: targets, comprehensions. -/
namespace Z
open PySem PySem.Spec PyProof.Rows L2
open Evl (Ex ex_l ex_t ex_rd)

section
variable {T : Tab} {Hf H : Hp}
theorem repE_unset : ∀ {ρ : Rho} {σ : L2.St} {F : List Addr} (i : Nat), repE T Hf H ρ σ F → ∃ F', repE T Hf H (ρ.set i none) (σ.set i none) F' ∧ F'.Sublist F
  | [], _, _, i, h => by obtain ⟨rfl, rfl⟩ := h; exact ⟨[], ⟨rfl, rfl⟩, .slnil⟩
  | none :: ρ, _, F, 0, ⟨w, τ, e, q⟩ => by subst e; exact ⟨F, ⟨none, τ, rfl, q⟩, .refl _⟩
  | some d :: ρ, _, F, 0, ⟨v, τ, F1, F2, e, f, r, q⟩ => by subst e; subst f; exact ⟨F2, ⟨none, τ, rfl, q⟩, List.sublist_append_right _ _⟩
  | none :: ρ, _, F, i + 1, ⟨w, τ, e, q⟩ => by
    subst e
    obtain ⟨F', q', s⟩ := repE_unset i q
    exact ⟨F', ⟨w, _, rfl, q'⟩, s⟩
  | some d :: ρ, _, F, i + 1, ⟨v, τ, F1, F2, e, f, r, q⟩ => by
    subst e; subst f
    obtain ⟨F', q', s⟩ := repE_unset i q
    exact ⟨F1 ++ F', ⟨v, _, F1, F', rfl, rfl, r, q'⟩, s.append_left _⟩
theorem New.sub {H0 Hf : Hp} {F G : List Addr} (n : New H0 Hf F) (s : G.Sublist F) : New H0 Hf G := ⟨n.nd.sublist s, fun a h => n.h a (s.subset h), fun a h => n.f a (s.subset h)⟩
theorem StOk.wipe {Hf0 H0 : Hp} {ρ : Rho} {σ : L2.St} (S : StOk T Hf0 H0 Hf H ρ σ) : ∀ vs : List Nat, StOk T Hf0 H0 Hf H (wipeR ρ vs) (L2.wipe σ vs)
  | [] => S
  | v :: vs => by
    have S1 := StOk.wipe S vs
    obtain ⟨F, r, n⟩ := S1.own
    obtain ⟨F', r', s⟩ := repE_unset v r
    exact ⟨S1.gr, F', r', n.sub s⟩
theorem wipe_set {σ : L2.St} {i : Nat} {a : Option V} : ∀ {vs : List Nat}, i ∈ vs → L2.wipe (σ.set i a) vs = L2.wipe σ vs
  | [], h => by cases h
  | v :: vs, h => by
    unfold L2.wipe
    by_cases hv : i = v
    · subst hv
      by_cases hm : i ∈ vs
      · rw [wipe_set hm]
      · have go : ∀ {vs : List Nat}, i ∉ vs → L2.wipe (σ.set i a) vs = (L2.wipe σ vs).set i a := by
          intro vs
          induction vs with
          | nil => intro _; rfl
          | cons u us ih =>
            intro hu
            unfold L2.wipe
            rw [ih (fun z => hu (List.mem_cons_of_mem _ z)), List.set_comm _ _ (fun z => hu (by rw [z]; exact List.mem_cons_self))]
        rw [go hm, List.set_set]
    · rcases List.mem_cons.mp h with z | z
      · exact absurd z hv
      · rw [wipe_set z]
end

mutual
/-- the slots of a target stand among vs -/
def tgIn (vs : List Nat) : Tg → Bool
  | .name i => decide (i ∈ vs)
  | .tup ts => tgsIn vs ts
def tgsIn (vs : List Nat) : List Tg → Bool
  | [] => true
  | t :: ts => tgIn vs t && tgsIn vs ts
end
section
variable {L : Law} {N : List Str} {sc : Sc} {k : Nat}
def tGs (X : Cx) (ts : List Expr) : TGs := fun vs σ H Q => ∀ pins s us, Inv X pins σ H s → Vals vs us → wpAny (model X.prog X.w) X.A (assignInOrder ((assignEach ts X.env).map (·.2)) us) (fun _ s' => ∃ σ' H', Inv X pins σ' H' s' ∧ Q σ' H') X.xe s
theorem pgs_ {X : Cx} (ts : List Expr) : PGs X ts (tGs X ts) := ⟨fun pins s _ _ _ _ _ I r h => h pins s _ I r⟩
theorem by_pgs {X : Cx} {e : List Expr} {t : TGs} {v : List V} {σ : L2.St} {H : Hp} {Q : L2.St → Hp → Prop} (p : PGs X e t) (h : t v σ H Q) : tGs X e v σ H Q := fun pins s u I r => p.run pins s σ H v u Q I r h
def SemG (L : Law) (N : List Str) (sc : Sc) (k : Nat) (tg : Expr) (t : Tg) : Prop :=
  ∀ X, Cok L N sc k X → ∀ d ρ ρ', bindT t d ρ = some ρ' → ∀ Hf0 H0 Hfp Hp Hf H σ v F, StOk L.T Hf0 H0 Hfp Hp ρ σ → Gr Hfp Hp Hf H → rep L.T Hf H d v F → New Hp Hf F → ∀ Q : L2.St → L2.Hp → Prop,
    (∀ σ', StOk L.T Hf0 H0 Hf H ρ' σ' → (∀ vs, tgIn vs t = true → L2.wipe σ' vs = L2.wipe σ vs) → Q σ' H) → tG X tg v σ H Q
def SemGs (L : Law) (N : List Str) (sc : Sc) (k : Nat) (tgs : List Expr) (ts : List Tg) : Prop :=
  ∀ X, Cok L N sc k X → ∀ ds ρ ρ', bindTs ts ds ρ = some ρ' → ∀ Hf0 H0 Hf H σ xs, StOk L.T Hf0 H0 Hf H ρ σ → repS L.T Hf H ds xs [] → ∀ Q : L2.St → L2.Hp → Prop,
    (∀ σ', StOk L.T Hf0 H0 Hf H ρ' σ' → (∀ vs, tgsIn vs ts = true → L2.wipe σ' vs = L2.wipe σ vs) → Q σ' H) → tGs X tgs xs σ H Q
theorem semG_name {i : Nat} {x : Str} {pos : Pos} (hN : N[i]? = some x) (hx : sc.names.lookup x = some .local ∨ (sc.names.lookup x = some .cell ∧ sc.fnb x = true)) : SemG L N sc k (.Name x pos) (.name i) := by
  intro X c d ρ ρ' h Hf0 H0 Hfp Hp Hf H σ v F S g r n Q q
  cases h
  have loc : Loc X.env.scope x := by
    rw [c.hsc]
    rcases hx with h | h
    · exact .inl h
    · exact .inr h.1
  have hf : X.fn x = true ∨ X.env.scope.names.lookup x = some .local := by
    rw [c.hsc]
    rcases hx with h | h
    · exact .inr h
    · exact .inl (c.fn x h.2)
  refine by_pg (pg_name (i := i) (by rw [c.hN]; exact c.nd) (by rw [c.hN]; exact hN) loc hf) ?_
  exact q _ (S.set i g r n) fun vs hv => wipe_set (of_decide_eq_true hv)
theorem semGs_nil : SemGs L N sc k [] [] := by
  intro X c ds ρ ρ' h Hf0 H0 Hf H σ xs S r Q q
  cases ds with
  | nil => cases h; exact by_pgs pgs_nil ⟨r.1, q _ S fun _ _ => rfl⟩
  | cons _ _ => cases h
theorem semGs_cons {e : Expr} {es : List Expr} {t : Tg} {ts : List Tg} (hs : ∀ env, (assignEach (e :: es) env).map (·.2) = assign e env :: (assignEach es env).map (·.2)) (he : SemG L N sc k e t) (hr : SemGs L N sc k es ts) : SemGs L N sc k (e :: es) (t :: ts) := by
  intro X c ds ρ ρ' h Hf0 H0 Hf H σ xs S r Q q
  cases ds with
  | nil => cases h
  | cons d ds =>
    obtain ⟨v, vs, F1, F2, e1, f, r1, r2⟩ := r
    subst e1
    have e2 : F1 = [] ∧ F2 = [] := by
      cases F1 with
      | nil => exact ⟨rfl, f.symm⟩
      | cons a b => cases f
    obtain ⟨e2, e3⟩ := e2
    subst e2; subst e3
    have h' : ((bindT t d ρ).bind fun ρ1 => bindTs ts ds ρ1) = some ρ' := h
    cases hb : bindT t d ρ with
    | none => rw [hb] at h'; cases h'
    | some ρ1 =>
      rw [hb] at h'
      refine by_pgs (pgs_cons (pg_ e) (pgs_ es) (hs _)) ⟨v, vs, rfl, he X c d ρ ρ1 hb Hf0 H0 Hf H Hf H σ v [] S (.refl S.sub) r1 New.nil _ fun σ1 S1 w1 => ?_⟩
      refine hr X c ds ρ1 ρ' h' Hf0 H0 Hf H σ1 vs S1 r2 Q fun σ2 S2 w2 => q σ2 S2 fun us hu => ?_
      have hu' : tgIn us t = true ∧ tgsIn us ts = true := by simpa [tgsIn] using hu
      rw [w2 us hu'.2, w1 us hu'.1]
theorem semG_tup {es : List Expr} {kk : Nat} {ts : List Tg} {pos : Pos} (hn : ∀ env, (assignEach es env).length = ts.length) (hst : ∀ env, (assignEach es env).findIdx? (·.1) = none) (h : SemGs L N sc k es ts) (hh : sc.hot = false := by rfl) : SemG L N sc k (.Tuple es kk pos) (.tup ts) := by
  intro X c d ρ ρ' hb Hf0 H0 Hfp Hp Hf H σ v F S g r n Q q
  cases d with
  | tup ds =>
    have hb' : bindTs ts ds ρ = some ρ' := hb
    have S' := S.grow g
    obtain ⟨a, xs, rfl, hq, r'⟩ := rep_tup g.s r
    have len : ∀ {ts : List Tg} {ds : List D} {ρ ρ' : Rho}, bindTs ts ds ρ = some ρ' → ds.length = ts.length := by
      intro ts
      induction ts with
      | nil => intro ds ρ ρ' h; cases ds with | nil => rfl | cons _ _ => cases h
      | cons t ts ih =>
        intro ds ρ ρ' h
        cases ds with
        | nil => cases h
        | cons d ds =>
          have h' : ((bindT t d ρ).bind fun ρ1 => bindTs ts ds ρ1) = some ρ' := h
          cases hb : bindT t d ρ with
          | none => rw [hb] at h'; cases h'
          | some ρ1 =>
            rw [hb] at h'
            rw [List.length_cons, List.length_cons, ih h']
    refine by_pg (pg_tup (n := ts.length) (c.calm hh) (pgs_ es) (hn _) (hst _)) ⟨a, xs, rfl, c.hK ▸ hq, by rw [repS_len r', len hb'], ?_⟩
    exact h X c ds ρ ρ' hb' Hf0 H0 Hf H σ xs S' r' Q fun σ' S2 w => q σ' S2 w
  | _ => cases hb

/-! ### comprehensions -/
/-- the tests of a comprehension (none or one) -/
def SemC (L : Law) (N : List Str) (sc : Sc) (k : Nat) (ifs : List Expr) (ifs' : Es) : Prop :=
  (ifs = [] ∧ ifs' = .nil) ∨ ∃ e e', ifs = [e] ∧ ifs' = .cons e' .nil ∧ SemT L N sc k e e'
/-- the block's own scope -/
def blkSc (sc : Sc) (scope : Scope) : Sc := { relS scope sc.toScope with fnb := fun x => scope.names.lookup x == some .cell, hot := sc.hot }
theorem Cok.blk {X : Cx} (c : Cok L N sc k X) {s : Shared} {H : Hp} {scope : Scope} {cl : List (Str × Addr)} {C : Addr} {fp : List Addr} : Cok L N (blkSc sc scope) k (X.blk s H scope (compEnvC scope cl C X.env) fp) where
  prog := c.prog
  hw := c.hw
  hbase := c.hbase
  hmg := c.hmg
  hK := c.hK
  hN := c.hN
  hsc := by
    show relS scope X.env.scope = relS scope sc.toScope
    rw [c.hsc]
  fn := fun x h => h
  nd := c.nd
  calm := c.calm
  room := c.room
  xe := rfl
theorem evT_one {G : Gd} {e' : E} {ρ : Rho} : evT G (.cons e' .nil) ρ = test G e' ρ := by
  cases h : ev G e' ρ with
  | none => simp [evT, test, h]
  | some p =>
    obtain ⟨d, f⟩ := p
    simp only [evT, test, h]
    cases truD d with
    | none => rfl
    | some b => cases b <;> rfl
theorem compD_cons {f : D → Option (Option D)} {d : D} {r : List D} {ds : List D} (h : compD f (d :: r) = some ds) : (∃ x ys, f d = some (some x) ∧ compD f r = some ys ∧ ds = x :: ys) ∨ (f d = some none ∧ compD f r = some ds) := by
  simp only [compD] at h
  split at h
  · rename_i x ys e1 e2; cases h; exact .inl ⟨x, ys, e1, e2, rfl⟩
  · rename_i ys e1 e2; cases h; exact .inr ⟨e1, e2⟩
  · cases h
/-- the parts of a comprehension's result: behind i items -/
theorem compD_take {f : D → Option (Option D)} : ∀ {items : List D} {ds : List D} (i : Nat), compD f items = some ds → i < items.length → ∃ d a, items[i]? = some d ∧ compD f (items.take i) = some a ∧
    ((∃ x, f d = some (some x) ∧ compD f (items.take (i + 1)) = some (a ++ [x])) ∨ (f d = some none ∧ compD f (items.take (i + 1)) = some a))
  | [], _, _, _, hi => absurd hi (by simp)
  | d :: r, ds, 0, h, _ => by
    refine ⟨d, [], rfl, rfl, ?_⟩
    rcases compD_cons h with ⟨x, ys, e1, e2, _⟩ | ⟨e1, e2⟩
    · exact .inl ⟨x, e1, by simp [compD, e1]⟩
    · exact .inr ⟨e1, by simp [compD, e1]⟩
  | d :: r, ds, i + 1, h, hi => by
    have hi' : i < r.length := by simpa using hi
    rcases compD_cons h with ⟨x, ys, e1, e2, _⟩ | ⟨e1, e2⟩
    · obtain ⟨d', a, h1, h2, h3⟩ := compD_take i e2 hi'
      refine ⟨d', x :: a, h1, by simp [compD, e1, h2], ?_⟩
      rcases h3 with ⟨y, h4, h5⟩ | ⟨h4, h5⟩
      · exact .inl ⟨y, h4, by simp [compD, e1, h5]⟩
      · exact .inr ⟨h4, by simp [compD, e1, h5]⟩
    · obtain ⟨d', a, h1, h2, h3⟩ := compD_take i e2 hi'
      refine ⟨d', a, h1, by simp [compD, e1, h2], ?_⟩
      rcases h3 with ⟨y, h4, h5⟩ | ⟨h4, h5⟩
      · exact .inl ⟨y, h4, by simp [compD, e1, h5]⟩
      · exact .inr ⟨h4, by simp [compD, e1, h5]⟩
theorem compD_le {f : D → Option (Option D)} : ∀ {items ds : List D}, compD f items = some ds → ds.length ≤ items.length
  | [], _, h => by cases h; simp
  | d :: r, ds, h => by
    rcases compD_cons h with ⟨x, ys, e1, e2, rfl⟩ | ⟨e1, e2⟩
    · have := compD_le e2; simp; omega
    · have := compD_le e2; simp; omega

/-- what a comprehension does with an item -/
def lcF (G : Gd) (vs : List Nat) (elt : E) (tg : Tg) (ifs : Es) (ρ : Rho) : D → Option (Option D) := fun d => match bindT tg d (wipeR ρ vs) with
  | some ρ' => match evT G ifs ρ' with
    | some true => match ev G elt ρ' with
      | some (x, true) => some (some x)
      | _ => none
    | some false => some none
    | none => none
  | none => none
section
variable {L : Law} {N : List Str} {sc : Sc} {k : Nat}
theorem lcF_inv {G : Gd} {vs : List Nat} {elt : E} {tg : Tg} {ifs : Es} {ρ : Rho} {d : D} {o : Option D} (h : lcF G vs elt tg ifs ρ d = some o) : ∃ ρ', bindT tg d (wipeR ρ vs) = some ρ' ∧
    ((∃ x, o = some x ∧ evT G ifs ρ' = some true ∧ ev G elt ρ' = some (x, true)) ∨ (o = none ∧ evT G ifs ρ' = some false)) := by
  unfold lcF at h
  split at h
  · rename_i ρ' hb
    refine ⟨ρ', hb, ?_⟩
    split at h
    · rename_i ht
      split at h
      · rename_i x he; cases h; exact .inl ⟨x, rfl, ht, he⟩
      · cases h
    · rename_i ht; cases h; exact .inr ⟨rfl, ht⟩
    · cases h
  · cases h
/-- a comprehension, in the layer's own terms -/
theorem lc_all {elt tg iter : Expr} {ifs : List Expr} {scope : Scope} {own : List (Str × Nat)} {vs : List Nat} {elt' : E} {t' : Tg} {it' : It} {ifs' : Es} (hit : SemI L N sc k tg iter it') (hvs : own.map (·.2) = vs) (htg : tgIn vs t' = true)
    (hg : SemG L N (blkSc sc scope) k tg t') (hif : SemC L N (blkSc sc scope) k ifs ifs') (he : SemE L N (blkSc sc scope) k elt elt') {X : Cx} (c : Cok L N sc k X) {ρ : Rho} {items ds : List D} (h1 : evI L.G it' ρ = some items) (hz : items.length ≤ 40000)
    (h2 : compD (lcF L.G vs elt' t' ifs' ρ) items = some ds) {Hf0 H0 Hf H : Hp} {σ : L2.St} (S : StOk L.T Hf0 H0 Hf H ρ σ) :
    ∃ wi g tt te, PI X tg iter wi ∧ (∀ (s : Shared) (H : Hp) (C : Addr) (cl : List (Str × Addr)) (fp : List Addr), PG (X.blk s H scope (compEnvC scope cl C X.env) fp) tg g) ∧ (∀ (s : Shared) (H : Hp) (C : Addr) (cl : List (Str × Addr)) (fp : List Addr), PTs (X.blk s H scope (compEnvC scope cl C X.env) fp) ifs tt) ∧
      (∀ (s : Shared) (H : Hp) (C : Addr) (cl : List (Str × Addr)) (fp : List Addr), PE (X.blk s H scope (compEnvC scope cl C X.env) fp) elt te) ∧ ∀ Q : VK, Post L.T Hf H (.lst .own ds) true Q → tLc wi g tt te (own.map (·.2)) σ H Q := by
  obtain ⟨wi, hwi, kwi⟩ := hit X c ρ items h1 Hf0 H0 Hf H σ S
  have hT : ∃ tt : TT, (∀ (s : Shared) (H : Hp) (C : Addr) (cl : List (Str × Addr)) (fp : List Addr), PTs (X.blk s H scope (compEnvC scope cl C X.env) fp) ifs tt) ∧
      ∀ ρ' b, evT L.G ifs' ρ' = some b → ∀ Hf0 H0 Hf H σ, StOk L.T Hf0 H0 Hf H ρ' σ → ∀ Q : Bool → Hp → Prop, (∀ H' Hf', Gr Hf H Hf' H' → Q b H') → tt σ H Q := by
    rcases hif with ⟨e1, e2⟩ | ⟨e, e', e1, e2, he⟩
    · subst e1; subst e2
      refine ⟨_, fun s H C cl fp => pts_nil, fun ρ' b hb Hf0 H0 Hf H σ S Q q => ?_⟩
      cases hb
      exact q H Hf (.refl S.sub)
    · subst e1; subst e2
      refine ⟨fun σ H Q => ∀ Y, Cok L N (blkSc sc scope) k Y → tT Y e σ H Q, fun s H C cl fp => pts_one ⟨fun pins s1 σ H1 Q I hw => hw _ c.blk pins s1 I⟩, fun ρ' b hb Hf0 H0 Hf H σ S Q q Y cY => ?_⟩
      rw [evT_one] at hb
      exact he Y cY ρ' b hb Hf0 H0 Hf H σ S Q q
  obtain ⟨tt, htt, ktt⟩ := hT
  refine ⟨wi, fun v σ H Q => ∀ Y, Cok L N (blkSc sc scope) k Y → tG Y tg v σ H Q, tt, fun σ H Q => ∀ Y, Cok L N (blkSc sc scope) k Y → tE Y elt σ H Q, hwi,
    fun s H C cl fp => ⟨fun pins s1 σ H1 v u Q I r hw => hw _ c.blk pins s1 u I r⟩, htt, fun s H C cl fp => ⟨fun pins s1 σ H1 Q I hw => hw _ c.blk pins s1 I⟩, fun Q p => ?_⟩
  refine kwi _ fun J H1 Hf1 ok D hD => ?_
  obtain ⟨g1, GG, Y, hw, hGG, hY⟩ := ok
  rw [hvs]
  refine lc_it (g := fun v σ H Q => ∀ Y, Cok L N (blkSc sc scope) k Y → tG Y tg v σ H Q) (tt := tt) (te := fun σ H Q => ∀ Y, Cok L N (blkSc sc scope) k Y → tE Y elt σ H Q) (vs := vs) (σ := σ) (H1 := H1) (D := D) (Qd := fun H => Q (.ref D) H) hw (fun i H' => ∃ a Hf' xs F, compD (lcF L.G vs elt' t' ifs' ρ) (items.take i) = some a ∧ Gr Hf1 H1 Hf' H' ∧ H' D = some (.lst xs) ∧ repS L.T Hf' H' a xs F ∧ New H1 Hf' (D :: F)) ?_ ?_ ?_ ?_
  · exact ⟨[], Hf1, [], [], rfl, .push g1.s hD, upd_same, ⟨rfl, rfl⟩, New.upd hD (hf_none g1.s hD)⟩
  · rintro i H' _ ⟨a, Hf', xs, F, _, g, _⟩
    exact hGG H' fun b o q => g.s b o (g.f b o q)
  · rintro i x H2 H3 hi ⟨a, Hf2, xs, F, ha, g2, hxs, ra, na⟩ hy
    obtain ⟨d, a', hd, ha', hstep⟩ := compD_take i h2 hi
    rw [ha] at ha'
    cases ha'
    obtain ⟨Hf3, g3, r3⟩ := hY i d H2 Hf2 x H3 hd g2.f g2.s hy
    have fd : ∃ o, lcF L.G vs elt' t' ifs' ρ d = some o := by
      rcases hstep with ⟨y, h4, _⟩ | ⟨h4, _⟩
      · exact ⟨_, h4⟩
      · exact ⟨_, h4⟩
    obtain ⟨o, ho⟩ := fd
    obtain ⟨ρ', hb, hcase⟩ := lcF_inv ho
    have S3 : StOk L.T Hf0 H0 Hf3 H3 (wipeR ρ vs) (L2.wipe σ vs) := (((S.grow g1).grow g2).grow g3).wipe vs
    intro Y1 cY1
    refine hg Y1 cY1 d _ ρ' hb Hf0 H0 Hf3 H3 Hf3 H3 _ x [] S3 (.refl g3.s) r3 New.nil _ fun σ2 S4 w4 => ⟨?_, ?_⟩
    · rw [w4 vs htg]
      have ww : ∀ us : List Nat, (∀ j ∈ us, j ∈ vs) → L2.wipe (L2.wipe σ vs) us = L2.wipe σ vs := by
        intro us
        induction us with
        | nil => intro _; rfl
        | cons u us ih =>
          intro hu
          have e := ih fun j hj => hu j (List.mem_cons_of_mem _ hj)
          show (L2.wipe (L2.wipe σ vs) us).set u none = _
          rw [e]
          have hm := hu u List.mem_cons_self
          have : ∀ vs : List Nat, u ∈ vs → (L2.wipe σ vs).set u none = L2.wipe σ vs := by
            intro vs
            induction vs with
            | nil => intro h; cases h
            | cons v vs ih2 =>
              intro h
              show ((L2.wipe σ vs).set v none).set u none = (L2.wipe σ vs).set v none
              by_cases huv : u = v
              · subst huv; rw [List.set_set]
              · rcases List.mem_cons.mp h with z | z
                · exact absurd z huv
                · rw [List.set_comm _ _ (fun z => huv z.symm), ih2 z]
          exact this vs hm
      exact ww vs fun _ h => h
    · rcases hcase with ⟨x1, rfl, ht, hx1⟩ | ⟨rfl, ht⟩
      · refine ktt ρ' true ht Hf0 H0 Hf3 H3 σ2 S4 _ fun H4 Hf4 g4 => ?_
        rw [if_pos rfl]
        intro Y2 cY2
        refine he Y2 cY2 ρ' x1 true hx1 Hf0 H0 Hf4 H4 σ2 (S4.grow g4) _ fun y H5 Hf5 F5 g5 r5 n5 => ?_
        have gg : Gr Hf2 H2 Hf5 H5 := (g3.trans g4).trans g5
        have hxs5 : H5 D = some (.lst xs) := gg.e _ _ hxs
        have hxs4 : H4 D = some (.lst xs) := g4.e _ _ (g3.e _ _ hxs)
        have la : xs.length = a.length := repS_len ra
        have lt : a.length ≤ 40000 := by
          have := compD_le ha
          rw [List.length_take] at this
          omega
        refine ⟨xs, hxs5, Evl.sz_lt (by omega), ?_⟩
        rcases hstep with ⟨y1, h4, h5⟩ | ⟨h4, _⟩
        · rw [ho] at h4
          cases h4
          have n5' := n5 rfl
          have gT : Gr Hf1 H1 Hf5 H5 := g2.trans gg
          have nD : New H1 Hf5 (D :: F) := na.grow gg (fun b hb => by
            rcases List.mem_cons.mp hb with rfl | hb
            · exact ⟨_, hxs⟩
            · exact repS_dom _ _ _ ra b hb)
          have dom4 : ∀ b ∈ D :: F, ∃ o, H4 b = some o := fun b hb => by
            rcases List.mem_cons.mp hb with rfl | hb
            · exact ⟨_, hxs4⟩
            · obtain ⟨o, q⟩ := repS_dom _ _ _ ra b hb
              exact ⟨o, (g3.trans g4).e _ _ q⟩
          have nAll : New H1 Hf5 ((D :: F) ++ F5) := New.append (Hf := Hf1) (Hf1 := Hf4) (g2.trans (g3.trans g4)).e nD dom4 n5'
          have neF : ∀ b ∈ F, b ≠ D := fun b hb z => by
            subst z
            exact (List.nodup_cons.mp na.nd).1 hb
          have neF5 : ∀ b ∈ F5, b ≠ D := fun b hb z => by
            subst z
            have := n5'.h b hb
            rw [hxs4] at this; cases this
          refine ⟨a ++ [x1], Hf5, xs ++ [y], F ++ F5, h5, ⟨gT.e.mut hD, gT.f, fun b o q => ?_, gT.n⟩, upd_same, ?_, by simpa using nAll⟩
          · have nb : b ≠ D := fun z => by
              subst z
              rw [nD.f b List.mem_cons_self] at q; cases q
            rw [upd_ne nb]
            exact gT.s b o q
          · refine repS_append (repS_mono gg.f _ _ _ (fun b hb o q => ?_) ra) ?_
            · rw [upd_ne (neF b hb)]; exact gg.e b o q
            · refine ⟨y, [], F5, [], rfl, by rw [List.append_nil], rep_mono (fun _ _ q => q) _ _ _ (fun b hb o q => ?_) r5, rfl, rfl⟩
              rw [upd_ne (neF5 b hb)]; exact q
        · rw [ho] at h4; cases h4
      · refine ktt ρ' false ht Hf0 H0 Hf3 H3 σ2 S4 _ fun H4 Hf4 g4 => ?_
        rw [if_neg Bool.false_ne_true]
        rcases hstep with ⟨y1, h4, h5⟩ | ⟨h4, h5⟩
        · rw [ho] at h4; cases h4
        · have gg : Gr Hf2 H2 Hf4 H4 := g3.trans g4
          exact ⟨a, Hf4, xs, F, h5, g2.trans gg, gg.e _ _ hxs, repS_mono gg.f _ _ _ (fun b _ o q => gg.e b o q) ra, na.grow gg (fun b hb => by
            rcases List.mem_cons.mp hb with rfl | hb
            · exact ⟨_, hxs⟩
            · exact repS_dom _ _ _ ra b hb)⟩
  · rintro H2 ⟨a, Hf2, xs, F, ha, g2, hxs, ra, na⟩
    rw [List.take_length] at ha
    rw [ha] at h2
    cases h2
    exact p (.ref D) H2 Hf2 (D :: F) (g1.trans g2) ⟨D, xs, F, rfl, rfl, hxs, ra⟩ fun _ => na.back g1.e
theorem sem_lc {elt tg iter : Expr} {ifs : List Expr} {scope : Scope} {own : List (Str × Nat)} {pos : Pos} {vs : List Nat} {elt' : E} {t' : Tg} {it' : It} {ifs' : Es} (hok : BlkOk N sc.toScope scope own) (hs : ∀ env x, foldedSetIterable iter env x = pure x)
    (hit : SemI L N sc k tg iter it') (hvs : own.map (·.2) = vs) (htg : tgIn vs t' = true) (hg : SemG L N (blkSc sc scope) k tg t') (hif : SemC L N (blkSc sc scope) k ifs ifs') (he : SemE L N (blkSc sc scope) k elt elt') (hh : sc.hot = false := by rfl) :
    SemE L N sc k (.ListComp elt [⟨tg, iter, ifs, 0⟩] scope pos) (.lc vs elt' t' it' ifs') := by
  intro X c ρ d fr h Hf0 H0 Hf H σ S Q p
  simp only [ev] at h
  split at h
  · rename_i items h1
    split at h
    · rename_i hz
      have h' : ((compD (lcF L.G vs elt' t' ifs' ρ) items).map fun ds => (D.lst M.own ds, true)) = some (d, fr) := h
      cases h2 : compD (lcF L.G vs elt' t' ifs' ρ) items with
      | none => rw [h2] at h'; cases h'
      | some ds =>
        rw [h2] at h'
        cases h'
        obtain ⟨wi, g, tt, te, a1, a2, a3, a4, a5⟩ := lc_all hit hvs htg hg hif he c h1 (of_decide_eq_true hz) h2 S
        exact by_pe (pe_lc (c.calm hh) (by rw [c.hN]; exact c.nd) a1 (by rw [c.hN, c.hsc]; exact hok) a2 a3 a4 (hs _)) (a5 Q p)
    · cases h
  · cases h
end
end
end Z

/-! Z10: statements. -/
namespace Z
open PySem PySem.Spec PyProof.Rows L2
open Evl (Ex ex_l ex_t ex_rd)

section
variable {T : Tab} {Hf H : Hp}
/-- a slot's thing is changed where it lies -/
theorem repE_mut : ∀ {ρ : Rho} {σ : L2.St} {F : List Addr} {i : Nat} {d : D}, repE T Hf H ρ σ F → ρ[i]? = some (some d) → ∃ v G A C, σ[i]? = some (some v) ∧ rep T Hf H d v G ∧ F = A ++ (G ++ C) ∧
    ∀ (H' : Hp) (d' : D) (G' : List Addr), (∀ a ∈ A, ∀ o, H a = some o → H' a = some o) → (∀ a ∈ C, ∀ o, H a = some o → H' a = some o) → rep T Hf H' d' v G' → repE T Hf H' (ρ.set i (some d')) σ (A ++ (G' ++ C))
  | [], _, _, i, d, _, h => by simp at h
  | none :: _, _, _, 0, d, _, h => by simp at h
  | some d0 :: ρ, _, _, 0, d, ⟨v, τ, F1, F2, e, f, r, q⟩, h => by
    cases (Option.some.inj (Option.some.inj h : some d0 = some d) : d0 = d)
    subst e
    exact ⟨v, F1, [], F2, rfl, r, f, fun H' d' G' _ kC r' => ⟨v, τ, G', F2, rfl, rfl, r', repE_mono (fun _ _ q => q) kC q⟩⟩
  | none :: ρ, _, _, i + 1, d, ⟨w, τ, e, q⟩, h => by
    subst e
    obtain ⟨v, G, A, C, h1, h2, h3, h4⟩ := repE_mut (i := i) q h
    exact ⟨v, G, A, C, h1, h2, h3, fun H' d' G' kA kC r' => ⟨w, τ, rfl, h4 H' d' G' kA kC r'⟩⟩
  | some d0 :: ρ, _, _, i + 1, d, ⟨v0, τ, F1, F2, e, f, r, q⟩, h => by
    subst e
    obtain ⟨v, G, A, C, h1, h2, h3, h4⟩ := repE_mut (i := i) q h
    refine ⟨v, G, F1 ++ A, C, h1, h2, by rw [f, h3, List.append_assoc], fun H' d' G' kA kC r' => ⟨v0, τ, F1, A ++ (G' ++ C), rfl, by rw [List.append_assoc], rep_mono (fun _ _ q => q) _ _ _ (fun a ha => kA a (List.mem_append_left _ ha)) r, h4 H' d' G' (fun a ha => kA a (List.mem_append_right _ ha)) kC r'⟩⟩
/-- .. as a state: p in the thing's own places is written, E came new with what is put in -/
theorem StOk.mut {Hf0 H0 Hfp Hp' : Hp} {ρ : Rho} {σ : L2.St} {i : Nat} {d : D} {E : List Addr} (S : StOk T Hf0 H0 Hfp Hp' ρ σ) (g : Gr Hfp Hp' Hf H) (hi : ρ[i]? = some (some d)) (hE : New Hp' Hf E) :
    ∃ v G, σ[i]? = some (some v) ∧ rep T Hf H d v G ∧ G.Nodup ∧ (∀ a ∈ G, Hf a = none) ∧ (∀ a ∈ G, a ∉ E) ∧ ∀ (p : Addr) (o : HO) (d' : D) (G' : List Addr), p ∈ G → rep T Hf (upd H p o) d' v G' → G'.Nodup → (∀ a ∈ G', a ∈ G ∨ a ∈ E) →
      StOk T Hf0 H0 Hf (upd H p o) (ρ.set i (some d')) σ := by
  obtain ⟨F, r0, n0⟩ := S.own
  have r := repE_mono (T := T) (H' := H) g.f (fun a _ o q => g.e a o q) r0
  have n := n0.grow g (repE_dom r0)
  obtain ⟨v, G, A, C, h1, h2, h3, h4⟩ := repE_mut r hi
  subst h3
  have nd := n.nd
  rw [List.nodup_append, List.nodup_append] at nd
  obtain ⟨n1, ⟨n5, n2, n4⟩, n3⟩ := nd
  have FE : ∀ a ∈ A ++ (G ++ C), a ∉ E := fun a ha he => by
    obtain ⟨o, q⟩ := repE_dom r0 a ha
    rw [hE.h a he] at q; cases q
  have hG : ∀ a ∈ G, a ∈ A ++ (G ++ C) := fun a ha => List.mem_append_right _ (List.mem_append_left _ ha)
  refine ⟨v, G, h1, h2, n5, fun a ha => n.f a (hG a ha), fun a ha => FE a (hG a ha), fun p o d' G' hp r' nd' sub => ?_⟩
  have pA : ∀ a ∈ A, a ≠ p := fun a ha z => n3 a ha p (List.mem_append_left _ hp) z
  have pC : ∀ a ∈ C, a ≠ p := fun a ha z => n4 p hp a ha z.symm
  have p0 : H0 p = none := n.h p (hG p hp)
  have pf : Hf p = none := n.f p (hG p hp)
  have gr := S.gr.trans g
  refine ⟨⟨gr.e.mut p0, gr.f, fun a u q => ?_, gr.n⟩, A ++ (G' ++ C), h4 _ d' G' (fun a ha u q => by rw [upd_ne (pA a ha)]; exact q) (fun a ha u q => by rw [upd_ne (pC a ha)]; exact q) r', ?_, fun a ha => ?_, fun a ha => ?_⟩
  · have : a ≠ p := fun z => by subst z; rw [pf] at q; cases q
    rw [upd_ne this]
    exact gr.s a u q
  · rw [List.nodup_append, List.nodup_append]
    refine ⟨n1, ⟨nd', n2, fun a ha b hb => ?_⟩, fun a ha b hb => ?_⟩
    · rcases sub a ha with h | h
      · exact n4 a h b hb
      · exact fun z => FE b (List.mem_append_right _ (List.mem_append_right _ hb)) (z ▸ h)
    · rcases List.mem_append.mp hb with hb | hb
      · rcases sub b hb with h | h
        · exact n3 a ha b (List.mem_append_left _ h)
        · exact fun z => FE a (List.mem_append_left _ ha) (z ▸ h)
      · exact n3 a ha b (List.mem_append_right _ hb)
  · rcases List.mem_append.mp ha with ha | ha
    · exact n.h a (List.mem_append_left _ ha)
    · rcases List.mem_append.mp ha with ha | ha
      · rcases sub a ha with h | h
        · exact n.h a (hG a h)
        · exact none_back S.gr.e (hE.h a h)
      · exact n.h a (List.mem_append_right _ (List.mem_append_right _ ha))
  · rcases List.mem_append.mp ha with ha | ha
    · exact n.f a (List.mem_append_left _ ha)
    · rcases List.mem_append.mp ha with ha | ha
      · rcases sub a ha with h | h
        · exact n.f a (hG a h)
        · exact hE.f a h
      · exact n.f a (List.mem_append_right _ (List.mem_append_right _ ha))
end

section
variable {L : Law} {N : List Str} {sc : Sc} {k : Nat}
def PostS (T : Tab) (Hf0 H0 Hf : Hp) (o : Out) (D : Ends) : Prop := match o with
  | .nx ρ => ∀ σ' Hf' H', Ex Hf Hf' → StOk T Hf0 H0 Hf' H' ρ σ' → D.nx σ' H'
  | .bk ρ => ∀ σ' Hf' H', Ex Hf Hf' → StOk T Hf0 H0 Hf' H' ρ σ' → D.bk σ' H'
  | .ct ρ => ∀ σ' Hf' H', Ex Hf Hf' → StOk T Hf0 H0 Hf' H' ρ σ' → D.ct σ' H'
  | .rt d => ∀ v Hf' H' F, Gr Hf0 H0 Hf' H' → rep T Hf' H' d v F → New H0 Hf' F → D.rt v H'
theorem PostS.mono {T : Tab} {Hf0 H0 Hf Hf1 : Hp} {o : Out} {D : Ends} (p : PostS T Hf0 H0 Hf o D) (e : Ex Hf Hf1) : PostS T Hf0 H0 Hf1 o D := by
  cases o with
  | nx ρ => exact fun σ' Hf' H' e' S => p σ' Hf' H' (e.trans e') S
  | bk ρ => exact fun σ' Hf' H' e' S => p σ' Hf' H' (e.trans e') S
  | ct ρ => exact fun σ' Hf' H' e' S => p σ' Hf' H' (e.trans e') S
  | rt d => exact p
def SemS (L : Law) (N : List Str) (sc : Sc) (k : Nat) (st : Stmt) (s : S) : Prop :=
  ∀ X, Cok L N sc k X → ∀ ρ o, run1 L.G s ρ = some o → ∀ Hf0 H0 Hf H σ, StOk L.T Hf0 H0 Hf H ρ σ → ∀ D, PostS L.T Hf0 H0 Hf o D → tS X st D σ H
def SemSs (L : Law) (N : List Str) (sc : Sc) (k : Nat) (st : List Stmt) (s : Ss) : Prop :=
  ∀ X, Cok L N sc k X → ∀ ρ o, runs L.G s ρ = some o → ∀ Hf0 H0 Hf H σ, StOk L.T Hf0 H0 Hf H ρ σ → ∀ D, PostS L.T Hf0 H0 Hf o D → tSs X st D σ H
theorem semSs_nil : SemSs L N sc k [] .nil := by
  intro X c ρ o h Hf0 H0 Hf H σ S D p
  cases h
  exact by_pss pss_nil (p σ Hf H (Evl.Ex.refl _) S)
theorem semSs_cons {st : Stmt} {r : List Stmt} {s : S} {r' : Ss} (h1 : SemS L N sc k st s) (h2 : SemSs L N sc k r r') : SemSs L N sc k (st :: r) (.cons s r') := by
  intro X c ρ o h Hf0 H0 Hf H σ S D p
  simp only [runs] at h
  refine by_pss (pss_cons (ps_ st) (pss_ r)) ?_
  split at h
  · rename_i ρ' h3
    exact h1 X c ρ _ h3 Hf0 H0 Hf H σ S _ fun σ' Hf' H' e' S' => h2 X c ρ' o h Hf0 H0 Hf' H' σ' S' D (p.mono e')
  · rename_i hne
    refine h1 X c ρ o h Hf0 H0 Hf H σ S _ ?_
    cases o with
    | nx ρ' => exact absurd h (hne ρ')
    | bk ρ' => exact p
    | ct ρ' => exact p
    | rt d => exact p
theorem semS_pass {pos : Pos} : SemS L N sc k (.Pass pos) .pass := by
  intro X c ρ o h Hf0 H0 Hf H σ S D p
  cases h
  exact by_ps ps_pass (p σ Hf H (Evl.Ex.refl _) S)
theorem semS_brk {pos : Pos} : SemS L N sc k (.Break pos) .brk := by
  intro X c ρ o h Hf0 H0 Hf H σ S D p
  cases h
  exact by_ps ps_break (p σ Hf H (Evl.Ex.refl _) S)
theorem semS_cont {pos : Pos} : SemS L N sc k (.Continue pos) .cont := by
  intro X c ρ o h Hf0 H0 Hf H σ S D p
  cases h
  exact by_ps ps_continue (p σ Hf H (Evl.Ex.refl _) S)
theorem semS_never {st : Stmt} : SemS L N sc k st .never := by
  intro X c ρ o h
  cases h
theorem semS_retN {pos : Pos} : SemS L N sc k (.Return none pos) .retN := by
  intro X c ρ o h Hf0 H0 Hf H σ S D p
  cases h
  exact by_ps ps_retN (p .non Hf H [] S.gr ⟨rfl, rfl⟩ New.nil)
theorem semS_ret {e : Expr} {e' : E} {pos : Pos} (he : SemE L N sc k e e') : SemS L N sc k (.Return (some e) pos) (.ret e') := by
  intro X c ρ o h Hf0 H0 Hf H σ S D p
  simp only [run1] at h
  split at h
  · rename_i d hd
    cases h
    obtain ⟨Hf1, e1, S1⟩ := S.frzL (kept e')
    exact by_ps (ps_ret (pe_ e)) (he X c _ d true hd Hf0 H0 Hf1 H σ S1 _ fun v H2 Hf2 F g r n => p v Hf2 H2 F (S1.gr.trans g) r ((n rfl).back S1.gr.e))
  · cases h
theorem semS_drop {e : Expr} {e' : E} {pos : Pos} (hs : ∀ l env, swapsWith e none l env = pure false) (he : SemE L N sc k e e') : SemS L N sc k (.Expr e pos) (.drop e') := by
  intro X c ρ o h Hf0 H0 Hf H σ S D p
  simp only [run1] at h
  split at h
  · rename_i q hd
    cases h
    obtain ⟨d, f⟩ := q
    obtain ⟨Hf1, e1, S1⟩ := S.frzL (kept e')
    exact by_ps (ps_expr (pe_ e) (hs _ _)) (he X c _ d f hd Hf0 H0 Hf1 H σ S1 _ fun v H2 Hf2 F g r n => p σ Hf2 H2 (e1.trans g.f) (S1.grow g))
  · cases h
theorem semS_ite {t : Expr} {a b : List Stmt} {t' : E} {a' b' : Ss} {pos : Pos} (ht : SemT L N sc k t t') (ha : SemSs L N sc k a a') (hb : SemSs L N sc k b b') : SemS L N sc k (.If t a b pos) (.ite t' a' b') := by
  intro X c ρ o h Hf0 H0 Hf H σ S D p
  simp only [run1] at h
  obtain ⟨Hf1, e1, S1⟩ := S.frzL (peek t')
  split at h
  · rename_i hd
    refine by_ps (ps_if (pt_ t) (pss_ a) (pss_ b)) (ht X c _ true hd Hf0 H0 Hf1 H σ S1 _ fun H2 Hf2 g => ?_)
    rw [if_pos rfl]
    exact ha X c _ o h Hf0 H0 Hf2 H2 σ (S1.grow g) D (p.mono (e1.trans g.f))
  · rename_i hd
    refine by_ps (ps_if (pt_ t) (pss_ a) (pss_ b)) (ht X c _ false hd Hf0 H0 Hf1 H σ S1 _ fun H2 Hf2 g => ?_)
    rw [if_neg Bool.false_ne_true]
    exact hb X c _ o h Hf0 H0 Hf2 H2 σ (S1.grow g) D (p.mono (e1.trans g.f))
  · cases h
theorem semS_asg {i : Nat} {x : Str} {e : Expr} {e' : E} {pos pos' : Pos} (hN : N[i]? = some x) (hx : sc.names.lookup x = some .local ∨ (sc.names.lookup x = some .cell ∧ sc.fnb x = true)) (hs : ∀ l env, swapsWith e (some (.Name x pos')) l env = pure false) (he : SemE L N sc k e e') :
    SemS L N sc k (.Assign [.Name x pos'] e pos) (.asg (.name i) e') := by
  intro X c ρ o h Hf0 H0 Hf H σ S D p
  simp only [run1] at h
  split at h
  · rename_i d hd
    cases h
    obtain ⟨Hf1, e1, S1⟩ := S.frzL (kept e')
    have loc : Loc X.env.scope x := by
      rw [c.hsc]
      rcases hx with h | h
      · exact .inl h
      · exact .inr h.1
    have hf : X.fn x = true ∨ X.env.scope.names.lookup x = some .local := by
      rw [c.hsc]
      rcases hx with h | h
      · exact .inr h
      · exact .inl (c.fn x h.2)
    exact by_ps (ps_set (i := i) (by rw [c.hN]; exact c.nd) (by rw [c.hN]; exact hN) loc (pe_ e) (hs _ _) hf) (he X c _ d true hd Hf0 H0 Hf1 H σ S1 _ fun v H2 Hf2 F g r n => p _ Hf2 H2 (e1.trans g.f) (S1.set i g r (n rfl)))
  · cases h
theorem semS_asgT {tg e : Expr} {t : Tg} {e' : E} {pos : Pos} (hs : ∀ l env, swapsWithSole [tg] e l env = pure false) (hw : ∀ env, swappedStores [tg] e env = pure none) (h1 : ∀ env, (assignEach [tg] env).map (·.2) = [assign tg env]) (hg : SemG L N sc k tg t) (he : SemE L N sc k e e') :
    SemS L N sc k (.Assign [tg] e pos) (.asg t e') := by
  intro X c ρ o h Hf0 H0 Hf H σ S D p
  simp only [run1] at h
  split at h
  · rename_i d hd
    cases hb : bindT t d (frzL ρ (kept e')) with
    | none => rw [hb] at h; cases h
    | some ρ' =>
      rw [hb] at h
      cases h
      obtain ⟨Hf1, e1, S1⟩ := S.frzL (kept e')
      exact by_ps (ps_asg (pe_ e) (pg_ tg) (hs _ _) (hw _) (h1 _)) (he X c _ d true hd Hf0 H0 Hf1 H σ S1 _ fun v H2 Hf2 F g r n => hg X c d _ ρ' hb Hf0 H0 Hf1 H Hf2 H2 σ v F S1 g r (n rfl) _ fun σ' S2 _ => p σ' Hf2 H2 (e1.trans g.f) S2)
  · cases h
theorem semS_asgLc {i : Nat} {y : Str} {py pos spos : Pos} {elt tg iter : Expr} {ifs : List Expr} {scope : Scope} {own : List (Str × Nat)} {vs : List Nat} {elt' : E} {t' : Tg} {it' : It} {ifs' : Es} (hN : N[i]? = some y) (hy : sc.names.lookup y = some .local)
    (hsw : ∀ env, env.scope = sc.toScope → env.blockKind = .function → swapsWith (.ListComp elt [⟨tg, iter, ifs, 0⟩] scope pos) (some (.Name y py)) spos.line env = pure true) (hbk : ∀ X, Cok L N sc k X → X.env.blockKind = .function)
    (hok : BlkOk N sc.toScope scope own) (hs : ∀ env x, foldedSetIterable iter env x = pure x)
    (hit : SemI L N sc k tg iter it') (hvs : own.map (·.2) = vs) (htg : tgIn vs t' = true) (hg : SemG L N (blkSc sc scope) k tg t') (hif : SemC L N (blkSc sc scope) k ifs ifs') (he : SemE L N (blkSc sc scope) k elt elt') (hh : sc.hot = false := by rfl) :
    SemS L N sc k (.Assign [.Name y py] (.ListComp elt [⟨tg, iter, ifs, 0⟩] scope pos) spos) (.asg (.name i) (.lc vs elt' t' it' ifs')) := by
  intro X c ρ o h Hf0 H0 Hf H σ S D p
  simp only [run1] at h
  split at h
  · rename_i d hd
    cases h
    obtain ⟨Hf1, e1, S1⟩ := S.frzL (kept (.lc vs elt' t' it' ifs'))
    simp only [ev] at hd
    split at hd
    · rename_i items h1
      split at hd
      · rename_i hz
        have h' : ((compD (lcF L.G vs elt' t' ifs' (frzL ρ (kept (.lc vs elt' t' it' ifs')))) items).map fun ds => (Z.D.lst M.own ds, true)) = some (d, true) := hd
        cases h2 : compD (lcF L.G vs elt' t' ifs' (frzL ρ (kept (.lc vs elt' t' it' ifs')))) items with
        | none => rw [h2] at h'; cases h'
        | some ds =>
          rw [h2] at h'
          cases h'
          obtain ⟨wi, g, tt, te, a1, a2, a3, a4, a5⟩ := lc_all hit hvs htg hg hif he c h1 (of_decide_eq_true hz) h2 S1
          refine by_ps (ps_setLc (i := i) (c.calm hh) (by rw [c.hN]; exact c.nd) (by rw [c.hN]; exact hN) (by rw [c.hsc]; exact hy) (hsw _ c.hsc (hbk X c)) a1 (by rw [c.hN, c.hsc]; exact hok) a2 a3 a4 (hs _)) ?_
          exact a5 _ fun v H2 Hf2 F g r n => p _ Hf2 H2 (e1.trans g.f) (S1.set i g r (n rfl))
      · cases hd
    · cases hd
  · cases h
end
end Z

/-! Z11: loops; what is stored in lists and objects. -/
namespace Z
open PySem PySem.Spec PyProof.Rows L2
open Evl (Ex ex_l ex_t ex_rd)

section
variable {L : Law} {N : List Str} {sc : Sc} {k : Nat}
/-! ### for -/
theorem semS_for {tg iter : Expr} {body : List Stmt} {t : Tg} {it : It} {b : Ss} {pos : Pos} (hs : ∀ env x, foldedSetIterable iter env x = pure x) (hit : SemI L N sc k tg iter it) (hg : SemG L N sc k tg t) (hb : SemSs L N sc k body b) (hh : sc.hot = false := by rfl) :
    SemS L N sc k (.For tg iter body [] pos) (.for_ t it b) := by
  intro X c ρ o h Hf0 H0 Hf H σ S D p
  simp only [run1] at h
  split at h
  · rename_i items hi
    obtain ⟨Hf1, e1, S1⟩ := S.frzL (keptI it)
    obtain ⟨wi, hwi, kwi⟩ := hit X c _ items hi Hf0 H0 Hf1 H σ S1
    have hp : PassesOwn (model X.prog X.w) X.A X.env X.xe := by rw [c.xe]; exact PassesOwn.never
    refine by_ps (ps_for hp (c.calm hh) hwi (pg_ tg) (pss_ body) (hs _)) (kwi _ fun J H2 Hf2 ok => ?_)
    obtain ⟨g2, GG, Y, hw, hGG, hY⟩ := ok
    refine ⟨fun i m σ' H' => m = items.length - i ∧ i ≤ items.length ∧ ∃ ρ' Hf', StOk L.T Hf0 H0 Hf' H' ρ' σ' ∧ Ex Hf2 Hf' ∧ forD (bindT t) (runs L.G b) (items.drop i) ρ' = some o, ⟨_, rfl, Nat.zero_le _, _, Hf2, S1.grow g2, fun _ _ q => q, by simpa using h⟩, ?_⟩
    rintro i m σ' H' ⟨rfl, hi', ρ', Hf', S', eF, hrun⟩
    have hG : GG H' := hGG H' fun a u q => S'.sub a u (eF a u q)
    by_cases hlt : i < items.length
    · refine .inr ⟨hw.goes i H' hlt hG, ?_⟩
      rw [List.drop_eq_getElem_cons hlt] at hrun
      unfold forD at hrun
      have hd : items[i]? = some items[i] := List.getElem?_eq_getElem hlt
      split at hrun
      · rename_i ρ1 hbd
        have turn : ∀ o1, runs L.G b ρ1 = some o1 → ∀ D1 : Ends, (∀ Hf3 H3, Gr Hf' H' Hf3 H3 → PostS L.T Hf0 H0 Hf3 o1 D1) → ∀ x H3, J.yld i H' x H3 → tG X tg x σ' H3 fun σ4 H4 => tSs X body D1 σ4 H4 := fun o1 hbody D1 hp1 x H3 hy => by
          obtain ⟨Hf3, g3, r3⟩ := hY i _ H' Hf' x H3 hd eF S'.sub (hw.yields i H' x H3 hlt hG hy)
          exact hg X c _ ρ' ρ1 hbd Hf0 H0 Hf3 H3 Hf3 H3 σ' x [] (S'.grow g3) (.refl g3.s) r3 New.nil _ fun σ4 S4 _ => hb X c ρ1 o1 hbody Hf0 H0 Hf3 H3 σ4 S4 D1 (hp1 Hf3 H3 g3)
        split at hrun
        · rename_i ρ2 hbody
          refine ⟨fun σ3 H3 => ∃ ρ3 Hf3, StOk L.T Hf0 H0 Hf3 H3 ρ3 σ3 ∧ Ex Hf2 Hf3 ∧ forD (bindT t) (runs L.G b) (items.drop (i + 1)) ρ3 = some o, fun σ3 H3 q => ⟨_, by omega, rfl, hlt, q⟩, fun x H3 hy => ?_⟩
          exact turn _ hbody { D with nx := fun σ3 H3 => ∃ ρ3 Hf3, StOk L.T Hf0 H0 Hf3 H3 ρ3 σ3 ∧ Ex Hf2 Hf3 ∧ forD (bindT t) (runs L.G b) (items.drop (i + 1)) ρ3 = some o, ct := fun σ3 H3 => ∃ ρ3 Hf3, StOk L.T Hf0 H0 Hf3 H3 ρ3 σ3 ∧ Ex Hf2 Hf3 ∧ forD (bindT t) (runs L.G b) (items.drop (i + 1)) ρ3 = some o, bk := D.nx } (fun Hf3 H3 g3 σ5 Hf5 H5 e5 S5 => ⟨ρ2, Hf5, S5, eF.trans (g3.f.trans e5), hrun⟩) x H3 hy
        · rename_i ρ2 hbody
          refine ⟨fun σ3 H3 => ∃ ρ3 Hf3, StOk L.T Hf0 H0 Hf3 H3 ρ3 σ3 ∧ Ex Hf2 Hf3 ∧ forD (bindT t) (runs L.G b) (items.drop (i + 1)) ρ3 = some o, fun σ3 H3 q => ⟨_, by omega, rfl, hlt, q⟩, fun x H3 hy => ?_⟩
          exact turn _ hbody { D with nx := fun σ3 H3 => ∃ ρ3 Hf3, StOk L.T Hf0 H0 Hf3 H3 ρ3 σ3 ∧ Ex Hf2 Hf3 ∧ forD (bindT t) (runs L.G b) (items.drop (i + 1)) ρ3 = some o, ct := fun σ3 H3 => ∃ ρ3 Hf3, StOk L.T Hf0 H0 Hf3 H3 ρ3 σ3 ∧ Ex Hf2 Hf3 ∧ forD (bindT t) (runs L.G b) (items.drop (i + 1)) ρ3 = some o, bk := D.nx } (fun Hf3 H3 g3 σ5 Hf5 H5 e5 S5 => ⟨ρ2, Hf5, S5, eF.trans (g3.f.trans e5), hrun⟩) x H3 hy
        · rename_i ρ2 hbody
          cases hrun
          refine ⟨fun _ _ => False, fun σ3 H3 q => q.elim, fun x H3 hy => turn _ hbody _ (fun Hf3 H3 g3 σ5 Hf5 H5 e5 S5 => ?_) x H3 hy⟩
          exact p σ5 Hf5 H5 ((e1.trans g2.f).trans (eF.trans (g3.f.trans e5))) S5
        · rename_i d hbody
          cases hrun
          refine ⟨fun _ _ => False, fun σ3 H3 q => q.elim, fun x H3 hy => turn _ hbody _ (fun Hf3 H3 g3 => ?_) x H3 hy⟩
          exact p
        · cases hrun
      · cases hrun
    · have e : i = items.length := by omega
      subst e
      rw [List.drop_length] at hrun
      have hrun' : some (Out.nx ρ') = some o := hrun
      cases hrun'
      exact .inl ⟨hw.stops H' hG, p σ' Hf' H' ((e1.trans g2.f).trans eF) S'⟩
  · cases h
/-! ### while -/
theorem semS_while {e : Expr} {body : List Stmt} {e' : E} {b : Ss} {pos : Pos} (ht : SemT L N sc k e e') (hb : SemSs L N sc k body b) : SemS L N sc k (.While e body [] pos) (.while_ e' b) := by
  intro X c ρ o h Hf0 H0 Hf H σ S D p
  simp only [run1] at h
  obtain ⟨Hf1, e1, S1⟩ := S.frzL (peek e')
  have hp : PassesOwn (model X.prog X.w) X.A X.env X.xe := by rw [c.xe]; exact PassesOwn.never
  refine by_ps (ps_while hp (pt_ e) (pss_ body)) ?_
  refine ⟨fun m σ' H' => ∃ ρ' Hf', StOk L.T Hf0 H0 Hf' H' ρ' σ' ∧ Ex Hf Hf' ∧ whileD (test L.G e') (runs L.G b) m ρ' = some o, ⟨L.G.wf, _, Hf1, S1, e1, h⟩, ?_⟩
  rintro m σ' H' ⟨ρ', Hf', S', eF, hrun⟩
  cases m with
  | zero => cases hrun
  | succ m =>
    unfold whileD at hrun
    split at hrun
    · rename_i htrue
      refine ht X c ρ' true htrue Hf0 H0 Hf' H' σ' S' _ fun H2 Hf2 g => ?_
      rw [if_pos rfl]
      split at hrun
      · rename_i ρ2 hbody
        exact ⟨fun σ3 H3 => ∃ ρ3 Hf3, StOk L.T Hf0 H0 Hf3 H3 ρ3 σ3 ∧ Ex Hf Hf3 ∧ whileD (test L.G e') (runs L.G b) m ρ3 = some o, fun σ3 H3 q => ⟨m, Nat.lt_succ_self m, q⟩,
          hb X c ρ' _ hbody Hf0 H0 Hf2 H2 σ' (S'.grow g) _ fun σ5 Hf5 H5 e5 S5 => ⟨ρ2, Hf5, S5, eF.trans (g.f.trans e5), hrun⟩⟩
      · rename_i ρ2 hbody
        exact ⟨fun σ3 H3 => ∃ ρ3 Hf3, StOk L.T Hf0 H0 Hf3 H3 ρ3 σ3 ∧ Ex Hf Hf3 ∧ whileD (test L.G e') (runs L.G b) m ρ3 = some o, fun σ3 H3 q => ⟨m, Nat.lt_succ_self m, q⟩,
          hb X c ρ' _ hbody Hf0 H0 Hf2 H2 σ' (S'.grow g) _ fun σ5 Hf5 H5 e5 S5 => ⟨ρ2, Hf5, S5, eF.trans (g.f.trans e5), hrun⟩⟩
      · rename_i ρ2 hbody
        cases hrun
        exact ⟨fun _ _ => False, fun σ3 H3 q => q.elim, hb X c ρ' _ hbody Hf0 H0 Hf2 H2 σ' (S'.grow g) _ fun σ5 Hf5 H5 e5 S5 => p σ5 Hf5 H5 (eF.trans (g.f.trans e5)) S5⟩
      · rename_i d hbody
        cases hrun
        exact ⟨fun _ _ => False, fun σ3 H3 q => q.elim, hb X c ρ' _ hbody Hf0 H0 Hf2 H2 σ' (S'.grow g) _ p⟩
      · cases hrun
    · rename_i hfalse
      cases hrun
      refine ht X c ρ' false hfalse Hf0 H0 Hf' H' σ' S' _ fun H2 Hf2 g => ?_
      rw [if_neg Bool.false_ne_true]
      exact p σ' Hf2 H2 (eF.trans g.f) (S'.grow g)
    · cases hrun

/-! ### what is stored in things -/
theorem repS_set {T : Tab} {Hf H : Hp} : ∀ {ds : List Z.D} {xs : List V} {j : Nat} {d : Z.D} {v : V}, repS T Hf H ds xs [] → rep T Hf H d v [] → repS T Hf H (ds.set j d) (xs.set j v) []
  | [], _, j, d, v, h, _ => by rw [h.1]; exact ⟨rfl, rfl⟩
  | d0 :: ds, _, 0, d, v, ⟨w, vs, F1, F2, e, f, r, q⟩, h => by
    subst e
    have e2 : F1 = [] ∧ F2 = [] := by
      cases F1 with
      | nil => exact ⟨rfl, f.symm⟩
      | cons a b => cases f
    obtain ⟨e1, e2⟩ := e2
    subst e1; subst e2
    exact ⟨v, vs, [], [], rfl, rfl, h, q⟩
  | d0 :: ds, _, j + 1, d, v, ⟨w, vs, F1, F2, e, f, r, q⟩, h => by
    subst e
    have e2 : F1 = [] ∧ F2 = [] := by
      cases F1 with
      | nil => exact ⟨rfl, f.symm⟩
      | cons a b => cases f
    obtain ⟨e1, e2⟩ := e2
    subst e1; subst e2
    exact ⟨w, vs.set j v, [], [], rfl, rfl, r, repS_set q h⟩
/-- xs[ix] = e -/
theorem semS_sub {i : Nat} {x : Str} {ix e : Expr} {ix' e' : E} {p1 p2 pos : Pos} (hN : N[i]? = some x) (hv : Vis sc.toScope x) (hd : (x == ("__debug__" : Str)) = false) (hcd : (x == ("__classdict__" : Str)) = false)
    (hs : ∀ l env, swapsWithSole [.Subscript (.Name x p1) ix p2] e l env = pure false) (hw : ∀ env, swappedStores [.Subscript (.Name x p1) ix p2] e env = pure none) (h1 : ∀ env, (assignEach [.Subscript (.Name x p1) ix p2] env).map (·.2) = [assign (.Subscript (.Name x p1) ix p2) env])
    (ha : ∀ env v, assign (.Subscript (.Name x p1) ix p2) env v = (do
      let ov ← holding [v] (eval (.Name x p1) env)
      let iv ← holding [v, ov] (eval ix env)
      standAt p2
      holding [v, ov, iv] (setItem ov iv v)
      release [v, ov, iv] []))
    (hi : SemE L N sc k ix ix') (he : SemE L N sc k e e') : SemS L N sc k (.Assign [.Subscript (.Name x p1) ix p2] e pos) (.sub i ix' e') := by
  intro X c ρ o h Hf0 H0 Hf H σ S D p
  simp only [run1] at h
  split at h
  · rename_i d j f2 hd1 hd2
    split at h
    · rename_i ds hds
      split at h
      · rename_i hc
        cases h
        simp only [Bool.and_eq_true, decide_eq_true_eq] at hc
        obtain ⟨⟨⟨z1, z2⟩, j0⟩, jl⟩ := hc
        obtain ⟨Hf1, e1, S1⟩ := S.frzL (kept e' ++ peek ix')
        refine by_ps (ps_asg (pe_ e) (pg_sub (pe_var (i := i) (by rw [c.hN]; exact hN) (by rw [c.hsc]; exact hv) hd hcd) (pe_ ix) set_list (ha _)) (hs _ _) (hw _) (h1 _)) (he X c _ d true hd1 Hf0 H0 Hf1 H σ S1 _ fun v H2 Hf2 F g r n => ?_)
        have z3 := fz_nil r z2
        subst z3
        obtain ⟨w, G, hσ, hr, nG, fG, _, up⟩ := S1.mut g hds (New.nil (H := H) (Hf' := Hf2))
        refine ⟨w, hσ, hi X c _ _ f2 hd2 Hf0 H0 Hf2 H2 σ (S1.grow g) _ fun u H3 Hf3 F3 g3 r3 _ => ?_⟩
        obtain ⟨w', G', hσ', hr', nG', fG', _, up'⟩ := S1.mut (g.trans g3) hds (New.nil (H := H) (Hf' := Hf3))
        rw [hσ] at hσ'
        cases hσ'
        obtain ⟨a, xs, G2, rfl, eG, hxs, rs⟩ := hr'
        have z4 := fzs_nil rs z1
        subst z4
        subst eG
        have ju := r3.1
        subst ju
        have len := repS_len rs
        refine ⟨a, xs, j, j.toNat, rfl, rfl, hxs, ?_, ?_⟩
        · unfold ixN
          rw [if_pos j0, if_pos (by omega)]
        · refine p _ Hf3 _ ((e1.trans g.f).trans g3.f) (up' a (.lst (xs.set j.toNat v)) (.lst .own (ds.set j.toNat d)) [a] List.mem_cons_self ?_ nG' fun b hb => .inl hb)
          refine ⟨a, _, [], rfl, rfl, upd_same, ?_⟩
          exact repS_mono (fun _ _ q => q) _ _ _ (fun b hb => by cases hb) (repS_set rs (rep_mono g3.f _ _ _ (fun b hb => by cases hb) r))
      · cases h
    · cases h
  · cases h
/-- xs.append(e) -/
theorem semS_app {i : Nat} {x : Str} {e : Expr} {e' : E} {p1 apos cpos pos : Pos} (hN : N[i]? = some x) (hv : Vis sc.toScope x) (hd : (x == ("__debug__" : Str)) = false) (hcd : (x == ("__classdict__" : Str)) = false)
    (hline : (apos.endLine == cpos.line) = true) (hs : ∀ env, starEach [e] env = [(false, eval e env)]) (he : SemE L N sc k e e') : SemS L N sc k (.Expr (.Call (.Attribute (.Name x p1) "append" apos) [e] [] cpos) pos) (.app i e') := by
  intro X c ρ o h Hf0 H0 Hf H σ S D p
  simp only [run1] at h
  split at h
  · rename_i d hd1
    split at h
    · rename_i ds hds
      split at h
      · rename_i hc
        cases h
        have hl := of_decide_eq_true hc
        obtain ⟨Hf1, e1, S1⟩ := S.frzL (kept e')
        refine by_ps (ps_expr (pe_bm PySem.F.plainAttrs_list PySem.F.slot_list_append PySem.F.type_list_append mt_append (pe_var (i := i) (by rw [c.hN]; exact hN) (by rw [c.hsc]; exact hv) hd hcd) (pa_cons (pe_ e) pa_nil (by rw [hs]; rfl)) rfl (by rw [hs]; rfl) hline (by rw [hs]; rfl) rfl) rfl) ?_
        obtain ⟨w0, G0, hσ0, hr0, _, _, _, _⟩ := S1.mut (Gr.refl S1.sub) hds (New.nil (H := H) (Hf' := Hf1))
        obtain ⟨a, xs0, G1, rfl, eG0, hxs0, rs0⟩ := hr0
        refine ⟨.ref a, hσ0, .inl ⟨rfl, xs0, .of hxs0⟩, he X c _ d true hd1 Hf0 H0 Hf1 H σ S1 _ fun v H2 Hf2 F g r n => ?_⟩
        obtain ⟨w, G, hσ, hr, nG, fG, dG, up⟩ := S1.mut g hds (n rfl)
        rw [hσ0] at hσ
        cases hσ
        obtain ⟨a', xs, G2, ea, eG, hxs, rs⟩ := hr
        cases ea
        subst eG
        have len := repS_len rs
        refine ⟨a, xs, v, rfl, rfl, hxs, Evl.sz_lt (by rw [len]; exact hl), p _ Hf2 _ (e1.trans g.f) (up a (.lst (xs ++ [v])) (.lst .own (ds ++ [d])) (a :: (G2 ++ F)) List.mem_cons_self ?_ ?_ fun b hb => ?_)⟩
        · have nF : a ∉ F := dG a List.mem_cons_self
          have nG2 : a ∉ G2 := (List.nodup_cons.mp nG).1
          refine ⟨a, _, G2 ++ F, rfl, rfl, upd_same, repS_append (repS_mono (fun _ _ q => q) _ _ _ (fun b hb o q => ?_) rs) ⟨v, [], F, [], rfl, by rw [List.append_nil], rep_mono (fun _ _ q => q) _ _ _ (fun b hb o q => ?_) r, rfl, rfl⟩⟩
          · rw [upd_ne (fun z => nG2 (by rw [← z]; exact hb))]; exact q
          · rw [upd_ne (fun z => nF (by rw [← z]; exact hb))]; exact q
        · refine List.nodup_cons.mpr ⟨fun hm => ?_, ?_⟩
          · rcases List.mem_append.mp hm with hm | hm
            · exact (List.nodup_cons.mp nG).1 hm
            · exact dG a List.mem_cons_self hm
          · exact List.nodup_append.mpr ⟨(List.nodup_cons.mp nG).2, (n rfl).nd, fun b hb c2 hc2 z => dG b (List.mem_cons_of_mem _ hb) (z ▸ hc2)⟩
        · rcases List.mem_cons.mp hb with rfl | hb
          · exact .inl List.mem_cons_self
          · rcases List.mem_append.mp hb with hb | hb
            · exact .inl (List.mem_cons_of_mem _ hb)
            · exact .inr hb
      · cases h
    · cases h
  · cases h
/-- the fields of an object with one more, or one changed -/
theorem putF_rep {T : Tab} {Hf H : Hp} (nd : T.nm.Nodup) {kk : Nat} {x : Str} (hk : T.nm[kk]? = some x) {d : Z.D} {v : V} (rd : rep T Hf H d v []) : ∀ {ks ks' : List Nat} {ds ds' : List Z.D} {fs : List (Str × V)}, fs.map (fun p => some p.1) = ks.map (fun k => T.nm[k]?) → repS T Hf H ds (fs.map (·.2)) [] →
    putK kk d ks ds = some (ks', ds') → (putF x v fs).map (fun p => some p.1) = ks'.map (fun k => T.nm[k]?) ∧ repS T Hf H ds' ((putF x v fs).map (·.2)) []
  | [], _, [], _, [], e, r, h => by
    simp only [putK] at h
    cases h
    exact ⟨by simp [putF, hk], ⟨v, [], [], [], rfl, rfl, rd, rfl, rfl⟩⟩
  | [], _, [], _, _ :: _, e, r, h => by simp at e
  | [], _, _ :: _, _, _, e, r, h => by simp [putK] at h
  | _ :: _, _, [], _, _, e, r, h => by simp [putK] at h
  | j :: ks, _, d0 :: ds, _, [], e, r, h => by simp at e
  | j :: ks, ks', d0 :: ds, ds', (y, w) :: fs, e, r, h => by
    rw [List.map_cons, List.map_cons] at e
    injection e with e1 e2
    obtain ⟨v0, vs, F1, F2, e3, f, r1, r2⟩ := r
    rw [List.map_cons] at e3
    injection e3 with e4 e5
    subst e4
    have e6 : F1 = [] ∧ F2 = [] := by
      cases F1 with
      | nil => exact ⟨rfl, f.symm⟩
      | cons a b => cases f
    obtain ⟨e6, e7⟩ := e6
    subst e6; subst e7; subst e5
    simp only [putK] at h
    show (if y = x then (y, v) :: fs else (y, w) :: putF x v fs).map _ = _ ∧ repS T Hf H ds' ((if y = x then (y, v) :: fs else (y, w) :: putF x v fs).map _) []
    by_cases hj : j = kk
    · subst hj
      rw [if_pos rfl] at h
      cases h
      rw [hk] at e1
      cases e1
      rw [if_pos rfl]
      exact ⟨by rw [List.map_cons, List.map_cons, e2, hk], ⟨v, _, [], [], rfl, rfl, rd, r2⟩⟩
    · rw [if_neg hj] at h
      have ne : y ≠ x := by
        intro z
        subst z
        have e8 : T.nm[j]? = some y := e1.symm
        obtain ⟨l1, q1⟩ := List.getElem?_eq_some_iff.mp e8
        obtain ⟨l2, q2⟩ := List.getElem?_eq_some_iff.mp hk
        exact hj ((List.getElem_inj nd).mp (q1.trans q2.symm))
      rw [if_neg ne]
      cases hp : putK kk d ks ds with
      | none => rw [hp] at h; cases h
      | some p =>
        obtain ⟨k2, d2⟩ := p
        rw [hp] at h
        cases h
        obtain ⟨h1, h2⟩ := putF_rep nd hk rd e2 r2 hp
        exact ⟨by rw [List.map_cons, List.map_cons, h1, e1], ⟨w, _, [], [], rfl, rfl, r1, h2⟩⟩
/-- self.f = e -/
theorem semS_fld {i kk : Nat} {x f : Str} {e : Expr} {e' : E} {p1 p2 pos : Pos} (O : LawOk L) (hN : N[i]? = some x) (hv : Vis sc.toScope x) (hd : (x == ("__debug__" : Str)) = false) (hcd : (x == ("__classdict__" : Str)) = false) (hf : L.T.nm[kk]? = some f)
    (hs : ∀ l env, swapsWith e (some (.Attribute (.Name x p1) f p2)) l env = pure false) (he : SemE L N sc k e e') : SemS L N sc k (.Assign [.Attribute (.Name x p1) f p2] e pos) (.fld i kk e') := by
  intro X c ρ o h Hf0 H0 Hf H σ S D p
  simp only [run1] at h
  split at h
  · rename_i d hd1
    split at h
    · rename_i cc ks ds hds
      split at h
      · rename_i ks' ds' hput
        split at h
        · rename_i hl
          cases h
          have hl' := of_decide_eq_true hl
          obtain ⟨Hf1, e1, S1⟩ := S.frzL (kept e')
          refine by_ps (ps_fld (pe_var (i := i) (by rw [c.hN]; exact hN) (by rw [c.hsc]; exact hv) hd hcd) (pe_ e) (hs _ _)) (he X c _ d true hd1 Hf0 H0 Hf1 H σ S1 _ fun v H2 Hf2 F g r n => ?_)
          obtain ⟨Hf3, g3, r3, e3⟩ := frozen g r (n rfl)
          obtain ⟨w, G, hσ, hr, nG, fG, dG, up⟩ := S1.mut g3 hds (New.nil (H := H) (Hf' := Hf3))
          obtain ⟨a, dx, fs, rfl, eG, ⟨ea, hins⟩, hn, hrs⟩ := hr
          subst eG
          obtain ⟨q1, q2⟩ := putF_rep O.nm hf r3 hn hrs hput
          have len : fs.length = ds.length := by have := repS_len hrs; simpa using this
          refine ⟨.ref a, hσ, a, _, dx, fs, rfl, hins, c.hK ▸ O.cls cc, c.hK ▸ O.na cc f (List.mem_of_getElem? hf), by rw [len]; exact hl', ?_⟩
          refine p _ Hf3 _ (e1.trans g3.f) (up a (.ins (L.T.cl cc) dx (putF f v fs)) (.obj (some _) cc ks' ds') [a] List.mem_cons_self ?_ nG fun b hb => .inl hb)
          exact ⟨a, dx, _, rfl, rfl, ⟨ea, upd_same⟩, q1, repS_mono (fun _ _ q => q) _ _ _ (fun b hb => by cases hb) q2⟩
        · cases h
      · cases h
    · cases h
  · cases h
end
end Z

/-! Z12: defs and their calls, classes and their objects. -/
namespace Z
open PySem PySem.Spec PyProof.Rows L2
open Evl (Ex ex_l ex_t ex_rd)

/-- a def's promise: what g says of trees -/
def spD (T : Tab) (g : List D → Option D) : Sp := fun vs H Q _ => ∃ Hf ds d, Ex Hf H ∧ repS T Hf H ds vs [] ∧ g ds = some d ∧ Post T Hf H d true Q
/-- an __init__'s: the object at a is filled, then frozen -/
def spI (T : Tab) (c : Nat) (g : Addr → List D → Option D) : Sp := fun vs H Q _ => ∃ a dx vs' Hf ds d, vs = .ref a :: vs' ∧ H a = some (.ins (T.cl c) dx []) ∧ Hf a = none ∧ Ex Hf H ∧ repS T Hf H ds vs' [] ∧ g a ds = some d ∧
  ∀ H' Hf', (∀ b o, H b = some o → b ≠ a → H' b = some o) → Ex Hf Hf' → Ex Hf' H' → (∀ b o, Hf' b = some o → Hf b = some o ∨ H b = none ∨ b = a) → rep T Hf' H' d (.ref a) [] → Q .non H'
/-- what an __init__ makes of a new object -/
def initD (G : Gd) (c : Nat) (F : Def) (a : Addr) (ds : List D) : Option D :=
  if ds.length + 1 = F.ps then match runs G F.body (startR F.n (D.obj (some a) c [] [] :: ds)) with
    | some (.nx ρ) => match ρ[0]? with
      | some (some (D.obj (some b) c' ks fs)) => if c' = c ∧ b = a then some (D.obj none c ks fs) else none
      | _ => none
    | _ => none
  else none

section
variable {T : Tab} {Hf H : Hp}
theorem repE_nones : ∀ n : Nat, repE T Hf H (List.replicate n none) (List.replicate n none) []
  | 0 => ⟨rfl, rfl⟩
  | n + 1 => ⟨none, _, rfl, repE_nones n⟩
theorem repE_start : ∀ {ds : List D} {vs : List V} {F : List Addr} (n : Nat), repS T Hf H ds vs F → repE T Hf H (ds.map some ++ List.replicate n none) (vs.map some ++ List.replicate n none) F
  | [], _, _, n, h => by obtain ⟨rfl, rfl⟩ := h; exact repE_nones n
  | d :: ds, _, _, n, ⟨v, vs, F1, F2, e, f, r, q⟩ => by
    subst e; subst f
    exact ⟨v, _, F1, F2, rfl, rfl, r, repE_start n q⟩
end

section
variable {L : Law} {k : Nat}
def defSc (st : Stmt) : Sc := { C8.fnScope st with fnb := fun _ => true }
theorem cok_def {N : List Str} {qual : Str} {sc : Scope} {f : Addr} {cdv : Value} {A : Around} {outer : List Env} {s : Shared} {H : Hp} {E : XK} (nd : N.Nodup) (hr : Room k (A.deeper (envOfC qual sc s.heap.objs.size f cdv))) :
    Cok L N { sc with fnb := fun _ => true } k (cxOf CX0 L.P L.w L.T.K L.mg L.base N qual sc f cdv A outer s H E).nox where
  prog := rfl
  hw := rfl
  hbase := rfl
  hmg := rfl
  hK := rfl
  hN := rfl
  hsc := rfl
  fn := fun _ _ => rfl
  nd := nd
  calm := fun _ => rfl
  room := hr
  xe := rfl
/-- a def does what its body's language says -/
theorem fn_sound {x qual : Str} {st : Stmt} {f : Addr} {fd : FuncData} {N ps : List Str} (F : C8.Fun L.T.K x qual st f fd) (S : FnScope N ps (C8.fnScope st)) (Df : Def) (hps : Df.ps = ps.length) (hn : Df.n = N.length) (hb : SemSs L N (defSc st) k (C8.fnBody st) Df.body) :
    FnOk L.P L.w L.T.K L.mg L.base CX0 (k + 1) f fd ps (spD L.T (runD L.G Df)) := by
  refine C8.fn0 F S (fun vs H Q E h => ?_) (fun cdv A outer s H vs Q E hr h => ?_)
  · obtain ⟨Hf, ds, d, e, r, hg, p⟩ := h
    unfold runD at hg
    split at hg
    · rename_i hl
      rw [repS_len r, hl, hps]
    · cases hg
  · obtain ⟨Hf, ds, d, e, r, hg, p⟩ := h
    refine ⟨_, pss_ _, ?_⟩
    have len := repS_len r
    unfold runD at hg
    split at hg
    · rename_i hl
      have St0 : StOk L.T Hf H Hf H (startR Df.n ds) (L2.start N vs) := by
        refine ⟨.refl e, [], ?_, New.nil⟩
        unfold startR L2.start
        rw [hn, len]
        exact repE_start _ r
      split at hg
      · rename_i ρ hrun
        cases hg
        exact hb _ (cok_def S.nd hr) _ _ hrun Hf H Hf H _ St0 _ fun σ' Hf' H' _ S' => p .non H' Hf' [] S'.gr ⟨rfl, rfl⟩ fun _ => New.nil
      · rename_i d' hrun
        cases hg
        exact hb _ (cok_def S.nd hr) _ _ hrun Hf H Hf H _ St0 _ fun v Hf' H' F' g r' n => p v H' Hf' F' g r' fun _ => n
      · cases hg
    · cases hg
/-- an __init__ does -/
theorem init_sound {x qual : Str} {st : Stmt} {f : Addr} {fd : FuncData} {N ps : List Str} {cc : Nat} (F : C8.Fun L.T.K x qual st f fd) (S : FnScope N ps (C8.fnScope st)) (Df : Def) (hps : Df.ps = ps.length) (hn : Df.n = N.length) (hb : SemSs L N (defSc st) k (C8.fnBody st) Df.body) :
    FnOk L.P L.w L.T.K L.mg L.base CX0 (k + 1) f fd ps (spI L.T cc (initD L.G cc Df)) := by
  refine C8.fn0 F S (fun vs H Q E h => ?_) (fun cdv A outer s H vs Q E hr h => ?_)
  · obtain ⟨a, dx, vs', Hf, ds, d, rfl, ha, hfa, e, r, hg, p⟩ := h
    unfold initD at hg
    split at hg
    · rename_i hl
      rw [List.length_cons, repS_len r, hl, hps]
    · cases hg
  · obtain ⟨a, dx, vs', Hf, ds, d, rfl, ha, hfa, e, r, hg, p⟩ := h
    refine ⟨_, pss_ _, ?_⟩
    have len := repS_len r
    unfold initD at hg
    split at hg
    · rename_i hl
      have e0 : Ex (fun b => if b = a then none else H b) H := fun b o q => by
        by_cases hb : b = a
        · have q' : (if b = a then none else H b) = some o := q
          rw [if_pos hb] at q'; cases q'
        · have q' : (if b = a then none else H b) = some o := q
          rw [if_neg hb] at q'; exact q'
      have St0 : StOk L.T Hf (fun b => if b = a then none else H b) Hf H (startR Df.n (D.obj (some a) cc [] [] :: ds)) (L2.start N (.ref a :: vs')) := by
        refine ⟨⟨e0, Evl.Ex.refl _, e, fun _ _ q => .inl q⟩, [a], ?_, ⟨List.nodup_cons.mpr ⟨by simp, .nil⟩, fun b hb => ?_, fun b hb => ?_⟩⟩
        · unfold startR L2.start
          rw [hn]
          have e1 : (D.obj (some a) cc [] [] :: ds).length = (V.ref a :: vs').length := by simp [len]
          rw [e1]
          refine repE_start _ ⟨.ref a, vs', [a], [], rfl, rfl, ⟨a, dx, [], rfl, rfl, ⟨rfl, ha⟩, rfl, rfl, rfl⟩, r⟩
        · cases List.mem_singleton.mp hb
          show (if a = a then none else H a) = none
          rw [if_pos rfl]
        · cases List.mem_singleton.mp hb
          exact hfa
      split at hg
      · rename_i ρ hrun
        split at hg
        · rename_i b c' ks fs hρ
          split at hg
          · rename_i hcc
            cases hg
            obtain ⟨hcc, hba⟩ := hcc
            subst hcc; subst hba
            refine hb _ (cok_def S.nd hr) _ _ hrun _ _ Hf H _ St0 _ fun σ' Hf' H' _ S' => ?_
            obtain ⟨F, r', n⟩ := S'.own
            obtain ⟨v, G, A, C, h1, h2, h3⟩ := repE_get r' hρ
            obtain ⟨a2, dx', fs', rfl, eG, ⟨ea, hins⟩, hn, hrs⟩ := h2
            subst ea; subst eG
            have hm : a2 ∈ F := by rw [h3]; exact List.mem_append_right _ (List.mem_append_left _ List.mem_cons_self)
            have hk : ∀ b ∈ [a2], Hf' b = none := fun b hb => by cases List.mem_singleton.mp hb; exact n.f _ hm
            refine p H' (plus Hf' H' [a2]) (fun b o q ne => S'.gr.e b o ?_) (fun b o q => plus_ex hk b o (S'.gr.f b o q)) (plus_sub S'.gr.s) (fun b o q => ?_) ⟨a2, dx', fs', rfl, rfl, plus_in a2 List.mem_cons_self _ hins, hn, repS_mono (plus_ex hk) _ _ _ (fun b hb => by cases hb) hrs⟩
            · show (if b = a2 then none else H b) = some o
              rw [if_neg ne]; exact q
            · by_cases hb : b = a2
              · exact .inr (.inr hb)
              · unfold plus at q
                rw [if_neg (by simpa using hb)] at q
                rcases S'.gr.n b o q with z | z
                · exact .inl z
                · have z' : (if b = a2 then none else H b) = none := z
                  rw [if_neg hb] at z'
                  exact .inr (.inl z')
          · cases hg
        · cases hg
      · cases hg
    · cases hg
end
end Z

/-! Z13: calls of own defs, methods, constructors. -/
namespace Z
open PySem PySem.Spec PyProof.Rows L2
open Evl (Ex ex_l ex_t ex_rd)

section
variable {T : Tab} {Hf H Hf1 H1 : Hp}
theorem frozenS {ds : List D} {vs : List V} {F : List Addr} (g : Gr Hf H Hf1 H1) (r : repS T Hf1 H1 ds vs F) (n : New H Hf1 F) : ∃ Hf2, Gr Hf H Hf2 H1 ∧ repS T Hf2 H1 (frzS ds) vs [] ∧ Ex Hf1 Hf2 :=
  ⟨plus Hf1 H1 F, plus_gr g n, repS_frz (plus_ex n.f) _ _ _ (fun a ha o q => plus_in a ha o q) r, plus_ex n.f⟩
theorem no_fld {fs : List (Str × V)} {ks : List Nat} {m : Str} (hn : fs.map (fun p => some p.1) = ks.map (fun k => T.nm[k]?)) (hm : m ∉ T.nm) : fs.lookup m = none := by
  cases h : fs.lookup m with
  | none => rfl
  | some v =>
    exfalso
    have : m ∈ fs.map (·.1) := by
      induction fs generalizing ks with
      | nil => cases h
      | cons p fs ih =>
        obtain ⟨y, w⟩ := p
        cases ks with
        | nil => cases hn
        | cons j ks =>
          rw [List.map_cons, List.map_cons] at hn
          injection hn with e1 e2
          rw [List.lookup_cons] at h
          by_cases hy : (m == y) = true
          · rw [eq_of_beq hy]; exact List.mem_cons_self
          · have hy' : (m == y) = false := by simpa using hy
            rw [hy'] at h
            exact List.mem_cons_of_mem _ (ih e2 h)
    obtain ⟨p, hp, e⟩ := List.mem_map.mp this
    have h2 : some m ∈ fs.map (fun p => some p.1) := List.mem_map.mpr ⟨p, hp, by rw [e]⟩
    rw [hn] at h2
    obtain ⟨j, _, e2⟩ := List.mem_map.mp h2
    exact hm (List.mem_of_getElem? e2)
end

section
variable {L : Law} {N : List Str} {sc : Sc} {k : Nat}
/-- a def of the module is called -/
theorem sem_call {dvs : List V} {f k' : Nat} {x : Str} {e : Expr} {es : List Expr} {es' : Es} {dd : List D} {p0 pos : Pos} (C : C8.Cal L.P L.w L.T.K L.mg L.base k' x (spD L.T (L.G.call f)) dvs) (hdv : ∀ Hf H, repS L.T Hf H dd dvs []) (hk : k' ≤ k) (hg : sc.names.lookup x = some .globalImplicit)
    (hdb : (x == ("__debug__" : Str)) = false) (hs : ∀ env, starEach (e :: es) env = (false, eval e env) :: starEach es env) (hpl : ∀ pos env, (backTo pos (starEach es env)).any (·.1) = false) (ha : SemA L N sc k (e :: es) es') :
    SemE L N sc k (.Call (.Name x p0) (e :: es) [] pos) (.call f es' dd) := by
  intro X c ρ d fr h Hf0 H0 Hf H σ S Q p
  simp only [ev] at h
  split at h
  · rename_i ds e1
    split at h
    · rename_i hdd
      cases hd : L.G.call f (frzS ds ++ dd) with
      | none => rw [hd] at h; cases h
      | some d' =>
        rw [hd] at h
        cases h
        have C' : C8.Cal X.prog X.w X.K X.mg X.base k' x (spD L.T (L.G.call f)) dvs := by rw [c.prog, c.hw, c.hK, c.hmg, c.hbase]; exact C
        refine by_pe (C8.pe_c C' c.room hk (c.gl hg) (pa_ _) hdb (hs _) (hpl _ _)) (ha X c ρ ds true e1 Hf0 H0 Hf H σ S _ fun vs H1 Hf1 F1 g1 r1 n1 => ?_)
        obtain ⟨Hf2, g2, r2, _⟩ := frozenS g1 r1 (n1 rfl)
        exact ⟨Hf2, frzS ds ++ dd, _, g2.s, repS_append r2 (hdv _ _), hd, p.grow g2⟩
    · cases h
  · cases h
theorem sem_call0 {dvs : List V} {f k' : Nat} {x : Str} {dd : List D} {p0 pos : Pos} (C : C8.Cal L.P L.w L.T.K L.mg L.base k' x (spD L.T (L.G.call f)) dvs) (hdv : ∀ Hf H, repS L.T Hf H dd dvs []) (hk : k' ≤ k) (hg : sc.names.lookup x = some .globalImplicit)
    (hdb : (x == ("__debug__" : Str)) = false) : SemE L N sc k (.Call (.Name x p0) [] [] pos) (.call f .nil dd) := by
  intro X c ρ d fr h Hf0 H0 Hf H σ S Q p
  simp only [ev, evs] at h
  split at h
  · rename_i hdd
    cases hd : L.G.call f (frzS [] ++ dd) with
    | none => rw [hd] at h; cases h
    | some d' =>
      rw [hd] at h
      cases h
      have C' : C8.Cal X.prog X.w X.K X.mg X.base k' x (spD L.T (L.G.call f)) dvs := by rw [c.prog, c.hw, c.hK, c.hmg, c.hbase]; exact C
      obtain ⟨f', fd, ps, dvs, F, hm, kp, b, dv⟩ := C'.ex
      refine by_pe (pe_call0 (E := C8.E0) F (c.room.mono hk) (c.gl hg) hm kp b dv C8.pass0 hdb) ?_
      exact ⟨Hf, frzS [] ++ dd, _, S.sub, hdv _ _, hd, p⟩
  · cases h
/-- a method -/
theorem sem_meth {a e : Expr} {es : List Expr} {a' : E} {es' : Es} {m : Nat} {x : Str} {k' : Nat} {apos pos : Pos} {pl : Sem Bool} (hm : x ∉ L.T.nm) (M : ∀ c f, L.G.meth c m = some f → C8.Met L.P L.w L.T.K L.mg L.base k' (L.T.cl c) x (spD L.T (L.G.call f)) []) (hk : k' ≤ k)
    (hs : ∀ env, starEach (e :: es) env = (false, eval e env) :: starEach es env) (hpl : ∀ pos env, (backTo pos (starEach es env)).any (·.1) = false)
    (ht : ∀ env, eval (.Call (.Attribute a x apos) (e :: es) [] pos) env = (do
      let ov ← eval a env
      standAt apos.atName
      let (f, first) ← holding [ov] (getMethod ov x pl)
      callWith pos f first (backTo pos (starEach (e :: es) env)) (backToKw pos (keywordEach [] env))))
    (ha : SemE L N sc k a a') (hes : SemA L N sc k (e :: es) es') : SemE L N sc k (.Call (.Attribute a x apos) (e :: es) [] pos) (.meth m a' es') := by
  intro X c ρ d fr h Hf0 H0 Hf H σ S Q p
  simp only [ev] at h
  split at h
  · rename_i cc ks fs f1 ds e2 e1
    split at h
    · rename_i f hf
      cases hd : L.G.call f (.obj none cc ks fs :: frzS ds) with
      | none => rw [hd] at h; cases h
      | some d' =>
        rw [hd] at h
        cases h
        have M' : C8.Met X.prog X.w X.K X.mg X.base k' (L.T.cl cc) x (spD L.T (L.G.call f)) [] := by rw [c.prog, c.hw, c.hK, c.hmg, c.hbase]; exact M cc f hf
        refine by_pe (C8.pe_mt (pl := pl) M' c.room hk (pe_ a) (pa_ _) (hs _) (hpl _ _) (ht _)) (ha X c ρ _ f1 e2 Hf0 H0 Hf H σ S _ fun v H1 Hf1 F1 g1 r1 n1 => ?_)
        have r1' := r1
        obtain ⟨b, dx, fs', rfl, hF, hb, hn, hr⟩ := r1
        refine ⟨b, dx, fs', rfl, g1.s _ _ hb, no_fld hn hm, hes X c ρ ds true e1 Hf0 H0 Hf1 H1 σ (S.grow g1) _ fun vs H2 Hf2 F2 g2 r2 n2 => ?_⟩
        obtain ⟨Hf3, g3, r3, _⟩ := frozenS g2 r2 (n2 rfl)
        subst hF
        refine ⟨Hf3, .obj none cc ks fs :: frzS ds, _, g3.s, ⟨.ref b, _, [], [], rfl, rfl, rep_mono g3.f _ _ _ (fun a ha => by cases ha) r1', ?_⟩, hd, p.grow (g1.trans g3)⟩
        rw [List.append_nil]; exact r3
    · cases h
  · cases h
theorem sem_meth0 {a : Expr} {a' : E} {m : Nat} {x : Str} {k' : Nat} {apos pos : Pos} {pl : Sem Bool} (hm : x ∉ L.T.nm) (M : ∀ c f, L.G.meth c m = some f → C8.Met L.P L.w L.T.K L.mg L.base k' (L.T.cl c) x (spD L.T (L.G.call f)) []) (hk : k' ≤ k)
    (ht : ∀ env, eval (.Call (.Attribute a x apos) [] [] pos) env = (do
      let ov ← eval a env
      standAt apos.atName
      let (f, first) ← holding [ov] (getMethod ov x pl)
      callWith pos f first (backTo pos (starEach [] env)) (backToKw pos (keywordEach [] env))))
    (ha : SemE L N sc k a a') : SemE L N sc k (.Call (.Attribute a x apos) [] [] pos) (.meth m a' .nil) := by
  intro X c ρ d fr h Hf0 H0 Hf H σ S Q p
  simp only [ev, evs] at h
  split at h
  · rename_i cc ks fs f1 ds e2 e1
    cases e1
    split at h
    · rename_i f hf
      cases hd : L.G.call f (.obj none cc ks fs :: frzS []) with
      | none => rw [hd] at h; cases h
      | some d' =>
        rw [hd] at h
        cases h
        have M' : C8.Met X.prog X.w X.K X.mg X.base k' (L.T.cl cc) x (spD L.T (L.G.call f)) [] := by rw [c.prog, c.hw, c.hK, c.hmg, c.hbase]; exact M cc f hf
        refine by_pe (C8.pe_mt0 (pl := pl) M' c.room hk (pe_ a) (ht _)) (ha X c ρ _ f1 e2 Hf0 H0 Hf H σ S _ fun v H1 Hf1 F1 g1 r1 n1 => ?_)
        have r1' := r1
        obtain ⟨b, dx, fs', rfl, hF, hb, hn, hr⟩ := r1
        subst hF
        exact ⟨b, dx, fs', rfl, g1.s _ _ hb, no_fld hn hm, Hf1, .obj none cc ks fs :: frzS [], _, g1.s, ⟨.ref b, _, [], [], rfl, rfl, r1', ⟨rfl, rfl⟩⟩, hd, p.grow g1⟩
    · cases h
  · cases h
/-- a constructor -/
theorem mk_made {Hf H Hf2 H1 : Hp} {c : Nat} {ds : List D} {vs : List V} {d : D} {Q : VK} {g : Addr → List D → Option D} (g2 : Gr Hf H Hf2 H1) (r : repS L.T Hf2 H1 ds vs []) (hd : ∀ a, g a ds = some d) (p : Post L.T Hf H d true Q) :
    ∀ x dx, H1 x = none → H1 dx = none → dx ≠ x → spI L.T c g (.ref x :: vs) (upd (upd H1 dx (.own x)) x (.ins (L.T.cl c) dx [])) (fun v H2 => v = .non ∧ Q (.ref x) H2) C8.E0 := by
  intro x dx hx hdx ne
  have up : ∀ b o, H1 b = some o → upd (upd H1 dx (.own x)) x (.ins (L.T.cl c) dx []) b = some o := fun b o q => by
    rw [upd_ne (ne_of_none q hx), upd_ne (ne_of_none q hdx)]; exact q
  refine ⟨x, dx, vs, Hf2, ds, d, rfl, upd_same, none_back g2.s hx, fun b o q => up b o (g2.s b o q), repS_mono (fun _ _ q => q) _ _ _ (fun _ h => by cases h) r, hd x, fun H' Hf' k1 k2 k3 k4 k5 => ⟨rfl, ?_⟩⟩
  refine p (.ref x) H' Hf' [] (g2.trans ⟨fun b o q => k1 b o (up b o q) (ne_of_none q hx), k2, k3, fun b o q => ?_⟩) k5 fun _ => New.nil
  rcases k4 b o q with z | z | z
  · exact .inl z
  · refine .inr ?_
    cases hb : H1 b with
    | none => rfl
    | some u => rw [up b u hb] at z; cases z
  · subst z; exact .inr hx
theorem sem_mk {dvs : List V} {cc k' : Nat} {x : Str} {e : Expr} {es : List Expr} {es' : Es} {dd : List D} {p0 pos : Pos} {g : Addr → List D → Option D} (C : C8.Mak L.P L.w L.T.K L.mg L.base k' x (L.T.cl cc) (spI L.T cc g) dvs) (hdv : ∀ Hf H, repS L.T Hf H dd dvs []) (hG : ∀ ds d, L.G.new cc ds = some d → ∀ a, g a ds = some d) (hk : k' + 1 ≤ k)
    (hg : sc.names.lookup x = some .globalImplicit) (hdb : (x == ("__debug__" : Str)) = false) (hs : ∀ env, starEach (e :: es) env = (false, eval e env) :: starEach es env) (hpl : ∀ pos env, (backTo pos (starEach es env)).any (·.1) = false) (ha : SemA L N sc k (e :: es) es') :
    SemE L N sc k (.Call (.Name x p0) (e :: es) [] pos) (.mk cc es' dd) := by
  intro X c ρ d fr h Hf0 H0 Hf H σ S Q p
  simp only [ev] at h
  split at h
  · rename_i ds e1
    split at h
    · rename_i hdd
      cases hd : L.G.new cc (frzS ds ++ dd) with
      | none => rw [hd] at h; cases h
      | some d' =>
        rw [hd] at h
        cases h
        have C' : C8.Mak X.prog X.w X.K X.mg X.base k' x (L.T.cl cc) (spI L.T cc g) dvs := by rw [c.prog, c.hw, c.hK, c.hmg, c.hbase]; exact C
        refine by_pe (C8.pe_mk C' c.room hk (c.gl hg) (pa_ _) hdb (hs _) (hpl _ _)) (ha X c ρ ds true e1 Hf0 H0 Hf H σ S _ fun vs H1 Hf1 F1 g1 r1 n1 => ?_)
        obtain ⟨Hf2, g2, r2, _⟩ := frozenS g1 r1 (n1 rfl)
        exact mk_made g2 (repS_append r2 (hdv _ _)) (hG _ _ hd) p
    · cases h
  · cases h
theorem sem_mk0 {dvs : List V} {cc k' : Nat} {x : Str} {dd : List D} {p0 pos : Pos} {g : Addr → List D → Option D} (C : C8.Mak L.P L.w L.T.K L.mg L.base k' x (L.T.cl cc) (spI L.T cc g) dvs) (hdv : ∀ Hf H, repS L.T Hf H dd dvs []) (hG : ∀ ds d, L.G.new cc ds = some d → ∀ a, g a ds = some d) (hk : k' + 1 ≤ k)
    (hg : sc.names.lookup x = some .globalImplicit) (hdb : (x == ("__debug__" : Str)) = false) : SemE L N sc k (.Call (.Name x p0) [] [] pos) (.mk cc .nil dd) := by
  intro X c ρ d fr h Hf0 H0 Hf H σ S Q p
  simp only [ev, evs] at h
  split at h
  · rename_i hdd
    cases hd : L.G.new cc (frzS [] ++ dd) with
    | none => rw [hd] at h; cases h
    | some d' =>
      rw [hd] at h
      cases h
      have C' : C8.Mak X.prog X.w X.K X.mg X.base k' x (L.T.cl cc) (spI L.T cc g) dvs := by rw [c.prog, c.hw, c.hK, c.hmg, c.hbase]; exact C
      obtain ⟨f', fd, ps, dvs, M, F, hm, b, dv⟩ := C'.ex
      refine by_pe (pe_make0 (E := C8.E0) M F (c.room.mono hk) (c.gl hg) hm b dv C8.pass0 hdb) ?_
      exact mk_made (.refl S.sub) (hdv _ _) (hG _ _ hd) p
  · cases h
end
end Z

/-! Z14: operators, comparisons, len of own objects. -/
namespace Z
open PySem PySem.Spec PyProof.Rows L2
open Evl (Ex ex_l ex_t ex_rd)

/-- the name of a special def -/
def spN : Sp1 → Str
  | .bin op => PySem.dunder op.info.2
  | .cmp .Eq => (cmpInfo .Eq).2.1
  | .cmp .In => "__contains__"
  | .cmp op => (cmpInfo op).2.1
  | .len => "__len__"
  | .iter => "__iter__"
/-- a special def of the class at C -/
structure Own (P : Program) (w : World) (K : PySem.W.Frag) (mg : Str → Option Value) (base : Heap) (k : Nat) (C : Addr) (nm : Str) (sp : Sp) : Prop where
  ex : ∃ (f : Addr) (fd : FuncData) (ps : List Str), FnOk P w K mg base C8.CX0 k f fd ps sp ∧ Binds K fd ps [] ∧ PySem.W.findIn K (.ref C) nm = some (some (.ref f)) ∧ PySem.W.isFn K (.ref f) = true
/-- all special defs of the law -/
structure Specs (L : Law) (k : Nat) : Prop where
  own : ∀ c s f, L.G.spec c s = some f → Own L.P L.w L.T.K L.mg L.base k (L.T.cl c) (spN s) (spD L.T (L.G.call f))
  first : ∀ c op f, L.G.spec c (.bin op) = some f → PySem.W.selfFirst L.T.K (L.T.cl c) = true
section
variable {L : Law} {N : List Str} {sc : Sc} {k k' : Nat}
/-- the call of a special def -/
theorem own_call {X : Cx} (c : Cok L N sc k X) {A : Around} (hr : Room k' A) (hfr : A.frames = X.A.frames) {f : Addr} {fd : FuncData} {ps : List Str} {g : List D → Option D} (F : FnOk L.P L.w L.T.K L.mg L.base C8.CX0 k' f fd ps (spD L.T g)) (hb : Binds L.T.K fd ps [])
    {pins : List (Addr × Obj)} {σ : L2.St} {H Hf : Hp} {s : Shared} {vs : List V} {us : List Value} {ds : List D} {d : D} {Q : VK} (I : Inv X pins σ H s) (r : Vals vs us) (e : Ex Hf H) (rd : repS L.T Hf H ds vs []) (hg : g ds = some d) (p : Post L.T Hf H d true Q) :
    wpAny (model X.prog X.w) A (call (.ref f) us) (fun u s' => ∃ v H' Hf' F, Inv X pins σ H' s' ∧ RelV v u ∧ rep L.T Hf' H' d v F ∧ Q v H') X.xe s := by
  have e0 : Env0 X.prog X.w X.K X.mg X.base A X.stack s H := by
    have e := I.env0
    exact ⟨by rw [hfr]; exact e.frames, e.mod, e.bs, e.bsz, e.funs, e.frf, e.hok, e.bare⟩
  have hsp : spD L.T g vs H (fun v H' => ∃ Hf' F, rep L.T Hf' H' d v F ∧ Q v H') C8.E0 := ⟨Hf, ds, d, e, rd, hg, fun v H' Hf' F g r n => ⟨Hf', F, r, p v H' Hf' F g r n⟩⟩
  have hl := F.len _ _ _ _ hsp
  have F' : FnOk X.prog X.w X.K X.mg X.base C8.CX0 k' f fd ps (spD L.T g) := by rw [c.prog, c.hw, c.hK, c.hmg, c.hbase]; exact F
  have hb' : Binds X.K fd ps [] := by rw [c.hK]; exact hb
  refine wpAny_call (codeAny_mono (F'.run A X.stack s H ⟨us, []⟩ us vs _ C8.E0 hr e0 (by
    have := hb' s us I.kIn (by rw [List.append_nil, ← r.length]; exact hl)
    simpa using this) r hsp) fun r s' hq => ?_)
  cases r with
  | error e => exact False.elim hq
  | ok fl =>
    cases fl with
    | ret w =>
      obtain ⟨v, H', I', rv, Hf', F, rr, q⟩ := I.after hq
      exact ⟨v, H', Hf', F, I', rv, rr, q⟩
    | next => exact False.elim hq
    | brk => exact False.elim hq
    | cont => exact False.elim hq
theorem cmpBack {Q : Value → Shared → Prop} {u : Value} {s : Shared} {T : Tab} {Hf H : Hp} {d : D} {v : V} {F : List Addr} (rv : RelV v u) (r : rep T Hf H d v F) (h : Q u s) : PySem.W.CmpBack Q u s := by
  cases u <;> first | exact h | skip
  exfalso
  cases d with
  | lst m ds => cases m with
    | own => obtain ⟨a, xs, G, e, _⟩ := r; subst e; cases rv
    | fz => obtain ⟨a, xs, e, _⟩ := r; subst e; cases rv
    | ro => obtain ⟨a, xs, e, _⟩ := r; subst e; cases rv
  | tup ds => obtain ⟨a, xs, e, _⟩ := r; subst e; cases rv
  | obj m c ks ds => cases m with
    | some _ => obtain ⟨a, xs, G, e, _⟩ := r; subst e; cases rv
    | none => obtain ⟨a, xs, G, e, _⟩ := r; subst e; cases rv
  | _ => have e := r.1; subst e; first | (obtain ⟨t, e⟩ := rv; cases e) | cases rv
theorem callS_inv {G : Gd} {c : Nat} {s : Sp1} {ds : List D} {d : D} (h : callS G c s ds = some d) : ∃ f, G.spec c s = some f ∧ G.call f ds = some d := by
  unfold callS at h
  split at h
  · exact ⟨_, by assumption, h⟩
  · cases h
theorem opT_binG (S : Specs L k') (hk : k' ≤ k) (op : Operator) : OpT L k (binaryOp op) (binG L.G op) := by
  intro X N sc c pins s σ Hf H x y v u d1 d2 d F1 F2 Q I rx ry e r1 r2 hd p
  unfold binG at hd
  split at hd
  · rename_i c1 ks ds c2 ks' ds'
    split at hd
    · rename_i hcc
      subst hcc
      obtain ⟨f, hf, hc⟩ := callS_inv hd
      obtain ⟨g, fd, ps, F, hb, hs, hi⟩ := (S.own _ _ _ hf).ex
      have r1' := r1; have r2' := r2
      obtain ⟨a, dx, fs, rfl, rfl, ha, _, _⟩ := r1
      obtain ⟨b, dy, gs, rfl, rfl, hb2, _, _⟩ := r2
      cases rx
      cases ry
      obtain ⟨mA, J, _⟩ := ins_get I.hok (e _ _ ha)
      obtain ⟨mB, J', _⟩ := ins_get I.hok (e _ _ hb2)
      obtain ⟨od, J, _⟩ := J.look
      obtain ⟨od', J', _⟩ := J'.look
      obtain ⟨m, hF⟩ := I.fr
      refine PySem.W.binop_K hF I.ok.mod.kin J J'.type (c.hK ▸ S.first _ _ _ hf) (c.hK ▸ hs) (c.hK ▸ hi) ?_
      refine wpAny_mono (own_call (A := X.A) c (c.room.mono hk) rfl F hb I (vs := [.ref a, .ref b]) (ds := [.obj none _ ks ds, .obj none _ ks' ds']) (.cons rfl (.cons rfl .nil)) e ⟨_, _, [], [], rfl, rfl, r1', _, _, [], [], rfl, rfl, r2', rfl, rfl⟩ hc p) (fun u' s' z => ?_) fun _ _ z => z
      obtain ⟨v', H', Hf', F', I', rv, rr, q⟩ := z
      exact cmpBack rv rr ⟨v', H', I', rv, q⟩
    · cases hd
  · exact opT_bin op X N sc c pins s σ Hf H x y v u d1 d2 d F1 F2 Q I rx ry e r1 r2 hd p
theorem blOf_inv {o : Option D} {b : Bool} (h : blOf o = some b) : o = some (.bl b) := by
  unfold blOf at h
  split at h
  · cases h; rfl
  · cases h
theorem frz_of_fz {d : D} {T : Tab} {Hf H : Hp} {v : V} {F : List Addr} (r : rep T Hf H d v F) (h : d.fz = true) : rep T Hf H (frz d) v [] := by
  have e := fz_nil r h
  subst e
  exact rep_frz (fun _ _ q => q) d v [] (fun _ hb => by cases hb) r
theorem opT_cmpG (S : Specs L k') (hk : k' ≤ k) (op : CmpOp) : OpT L k (compareOp op) (cmpBG L.G op) := by
  intro X N sc c pins s σ Hf H x y v u d1 d2 d F1 F2 Q I rx ry e r1 r2 hd p
  unfold cmpBG at hd
  cases hb : cmpG L.G op d1 d2 with
  | none => rw [hb] at hd; cases hd
  | some bb =>
    rw [hb] at hd
    cases hd
    unfold cmpG at hb
    split at hb
    · rename_i c1 ks ds c2 ks' ds'
      split at hb
      · rename_i hcc
        subst hcc
        obtain ⟨f, hf, hc⟩ := callS_inv (blOf_inv hb)
        obtain ⟨g, fd, ps, F, hb', hs, hi⟩ := (S.own _ _ _ hf).ex
        have r1' := r1; have r2' := r2
        obtain ⟨a, dx, fs, rfl, rfl, ha, _, _⟩ := r1
        obtain ⟨b, dy, gs, rfl, rfl, hb2, _, _⟩ := r2
        cases rx
        cases ry
        obtain ⟨mA, J, _⟩ := ins_get I.hok (e _ _ ha)
        obtain ⟨mB, J', _⟩ := ins_get I.hok (e _ _ hb2)
        obtain ⟨od, J, _⟩ := J.look
        obtain ⟨od', J', _⟩ := J'.look
        obtain ⟨m, hF⟩ := I.fr
        show wpAny (model X.prog X.w) X.A (richCompare .Eq _ _) (EP X pins σ Q) X.xe s
        refine PySem.W.cmp_K (op := .Eq) c.room.units0 hF I.ok.mod.kin J J'.type (by simp [PySem.W.notFirst]) (c.hK ▸ hs) (c.hK ▸ hi) ?_
        refine wpAny_mono (own_call (A := X.A) c (c.room.mono hk) rfl F hb' I (vs := [.ref a, .ref b]) (ds := [.obj none _ ks ds, .obj none _ ks' ds']) (.cons rfl (.cons rfl .nil)) e ⟨_, _, [], [], rfl, rfl, r1', _, _, [], [], rfl, rfl, r2', rfl, rfl⟩ hc p) (fun u' s' z => ?_) fun _ _ z => z
        obtain ⟨v', H', Hf', F', I', rv, rr, q⟩ := z
        exact cmpBack rv rr ⟨v', H', I', rv, q⟩
      · cases hb
    · rename_i c1 ks ds
      split at hb
      · rename_i hz
        obtain ⟨f, hf, hc⟩ := callS_inv (blOf_inv hb)
        obtain ⟨g, fd, ps, F, hb', hs, hi⟩ := (S.own _ _ _ hf).ex
        have r2' := r2
        obtain ⟨b, dy, gs, rfl, rfl, hb2, _, _⟩ := r2
        cases ry
        obtain ⟨mB, J', _⟩ := ins_get I.hok (e _ _ hb2)
        obtain ⟨od', J', _⟩ := J'.look
        obtain ⟨m, hF⟩ := I.fr
        refine PySem.W.in_K hF I.ok.mod.kin J' (c.hK ▸ hs) (c.hK ▸ hi) ?_
        refine wpAny_mono (own_call (A := X.A) c (c.room.mono hk) rfl F hb' I (vs := [.ref b, x]) (ds := [.obj none _ ks ds, frz d1]) (.cons rfl (.cons rx .nil)) e ⟨_, _, [], [], rfl, rfl, r2', _, _, [], [], rfl, rfl, frz_of_fz r1 hz, rfl, rfl⟩ hc p) (fun u' s' z => ?_) fun _ _ z => z
        obtain ⟨v', H', Hf', F', I', rv, rr, q⟩ := z
        have e1 := rr.1
        subst e1
        cases rv
        exact wpAny_truthy_bool ⟨.bl bb, H', I', rfl, q⟩
      · cases hb
    · rename_i c1 ks ds
      split at hb
      · rename_i hz
        cases hb2 : blOf (callS L.G c1 (.cmp .In) [.obj none c1 ks ds, frz d1]) with
        | none => rw [hb2] at hb; cases hb
        | some b0 =>
          rw [hb2] at hb
          cases hb
          obtain ⟨f, hf, hc⟩ := callS_inv (blOf_inv hb2)
          obtain ⟨g, fd, ps, F, hb', hs, hi⟩ := (S.own _ _ _ hf).ex
          have r2' := r2
          obtain ⟨b, dy, gs, rfl, rfl, hb2, _, _⟩ := r2
          cases ry
          obtain ⟨mB, J', _⟩ := ins_get I.hok (e _ _ hb2)
          obtain ⟨od', J', _⟩ := J'.look
          obtain ⟨m, hF⟩ := I.fr
          refine PySem.W.notIn_K hF I.ok.mod.kin J' (c.hK ▸ hs) (c.hK ▸ hi) ?_
          refine wpAny_mono (own_call (A := X.A) (Q := fun v H' => ∃ b, v = .bl b ∧ Q (.bl (!b)) H') c (c.room.mono hk) rfl F hb' I (vs := [.ref b, x]) (ds := [.obj none _ ks ds, frz d1]) (.cons rfl (.cons rx .nil)) e ⟨_, _, [], [], rfl, rfl, r2', _, _, [], [], rfl, rfl, frz_of_fz r1 hz, rfl, rfl⟩ hc (fun v1 H1 Hf1 F1 g1 r1 n1 => ⟨_, r1.1, p.flat g1 rfl⟩)) (fun u' s' z => ?_) fun _ _ z => z
          obtain ⟨v', H', Hf', F', I', rv, rr, b1, e1, q⟩ := z
          subst e1
          cases rv
          exact wpAny_truthy_bool ⟨.bl (!b1), H', I', rfl, q⟩
      · cases hb
    · exact opT_cmp op X N sc c pins s σ Hf H x y v u d1 d2 _ F1 F2 Q I rx ry e r1 r2 (by unfold cmpB; rw [hb]; rfl) p
theorem bltG_ne {b : Bn} (h : b ≠ .len) (G : Gd) : bltG G b = bltD b := by
  funext ds
  unfold bltG
  split
  · exact absurd rfl h
  · rfl
theorem lnOf_inv {o : Option D} {d : D} (h : lnOf o = some d) : ∃ n, o = some (.int n) ∧ d = .int n ∧ 0 ≤ n ∧ n < 2 ^ 63 := by
  unfold lnOf at h
  split at h
  · split at h
    · rename_i hc
      rw [Bool.and_eq_true, decide_eq_true_eq, decide_eq_true_eq] at hc
      cases h
      exact ⟨_, rfl, rfl, hc.1, hc.2⟩
    · cases h
  · cases h
theorem callT_lenG (S : Specs L k') (hk : k' + 1 ≤ k) : CallT L k (.builtin "len") (bltG L.G .len) := by
  intro X N sc c hh pins s σ H xs us Q I rx ⟨Hf, ds, F, d, e, r, hd, p⟩
  unfold bltG at hd
  split at hd
  · rename_i c1 ks fs _
    obtain ⟨n, hc, rfl, h0, h1⟩ := lnOf_inv hd
    obtain ⟨f, hf, hc⟩ := callS_inv hc
    obtain ⟨g, fd, ps, F, hb', hs, hi⟩ := (S.own _ _ _ hf).ex
    obtain ⟨v, rfl, r1⟩ := repS_1 r
    have r1' := r1
    obtain ⟨a, dx, gs, rfl, rfl, ha, _, _⟩ := r1
    obtain ⟨u, us', rfl, ru, rn⟩ : ∃ u us', us = u :: us' ∧ RelV (.ref a) u ∧ Vals [] us' := by cases rx with | cons h t => exact ⟨_, _, rfl, h, t⟩
    cases rn
    cases ru
    obtain ⟨mB, J, _⟩ := ins_get I.hok (e _ _ ha)
    obtain ⟨od, J, _⟩ := J.look
    obtain ⟨m, hF⟩ := I.fr
    refine PySem.W.len_K hF I.ok.mod.kin J (c.hK ▸ hs) (c.hK ▸ hi) ?_
    refine wpAny_mono (own_call (A := X.A.in1) c ((c.room.mono hk).in1) rfl F hb' I (vs := [.ref a]) (ds := [.obj none _ ks fs]) (.cons rfl .nil) e ⟨_, _, [], [], rfl, rfl, r1', rfl, rfl⟩ hc p) (fun u' s' z => ?_) fun _ _ z => z
    obtain ⟨v', H', Hf', F', I', rv, rr, q⟩ := z
    have e1 := rr.1
    subst e1
    obtain ⟨t, rfl⟩ := rv
    refine ⟨⟨h0, h1⟩, .int n, H', ?_, ⟨_, rfl⟩, q⟩
    exact I'.tok _
  · exact callT_len X N sc c hh pins s σ H xs us Q I rx ⟨Hf, _, F, d, e, r, hd, p⟩
end
end Z

/-! Z15: enumerate and zip over lists and tuples in any mix. -/
namespace Z
open PySem PySem.Spec PyProof.Rows L2
open Evl (Ex ex_l ex_t ex_rd)

/-- a list (true), a tuple (false) -/
def Sq (b : Bool) (K : PySem.W.Frag) (H : Hp) (a : Addr) (xs : List V) : Prop := if b then SqL K H a xs else SqT K H a xs
def Pl (b : Bool) (h : Heap) (a : Addr) (vs : Array Value) : Prop := if b then h.IsList a vs else h.IsTuple a vs
def Cu (b : Bool) (h : Heap) (it a : Addr) (i : Nat) : Prop := if b then h.IsListIter it a i else h.IsTupleIter it a i
def cuObj (b : Bool) (a : Addr) : Obj := { cls := .type (if b then "list_iterator" else "tuple_iterator"), data := .fields #[.ref a, .int 0 0] }
theorem cu_new {b : Bool} {h : Heap} {it a : Addr} (e : h.get? it = some (cuObj b a)) : Cu b h it a 0 := by
  cases b
  · exact ⟨_, e, rfl, rfl⟩
  · exact ⟨_, e, rfl, rfl⟩
theorem cu_keep {b : Bool} {h h' : Heap} {it a : Addr} {i : Nat} (c : Cu b h it a i) (k : ∀ o, h.get? it = some o → h'.get? it = some o) : Cu b h' it a i := by
  cases b
  · have c' : h.IsTupleIter it a i := c
    exact c'.at k
  · have c' : h.IsListIter it a i := c
    exact c'.at k
theorem cu_obj {b : Bool} {h : Heap} {it a : Addr} {i : Nat} (c : Cu b h it a i) : ∃ o, h.get? it = some o ∧ ∀ v, o.data ≠ .cell v := by
  cases b
  · obtain ⟨o, e, _, d⟩ := (show h.IsTupleIter it a i from c)
    exact ⟨o, e, fun v q => by rw [d] at q; cases q⟩
  · obtain ⟨o, e, _, d⟩ := (show h.IsListIter it a i from c)
    exact ⟨o, e, fun v q => by rw [d] at q; cases q⟩
theorem sq_inv {X : Cx} {pins : List (Addr × Obj)} {σ : L2.St} {H : Hp} {s : Shared} {b : Bool} {a : Addr} {xs : List V} (I : Inv X pins σ H s) (q : Sq b X.K H a xs) : ∃ its : List Value, Vals xs its ∧ Pl b s.heap a its.toArray ∧ a < s.heap.objs.size := by
  cases b
  · obtain ⟨its, r, p, _⟩ := I.tuple (show SqT X.K H a xs from q)
    have p' := p
    obtain ⟨o, e, _⟩ := p'
    exact ⟨its, r, p, Heap.lt_size e⟩
  · obtain ⟨its, r, p, _⟩ := I.list (show SqL X.K H a xs from q)
    exact ⟨its, r, p.isList, p.lt⟩
theorem sq_inj {X : Cx} {pins : List (Addr × Obj)} {σ : L2.St} {H : Hp} {s : Shared} {b : Bool} {a : Addr} {xs ys : List V} (I : Inv X pins σ H s) (q : Sq b X.K H a xs) (r : Sq b X.K H a ys) : xs = ys := by
  cases b
  · exact I.tuple_inj (show SqT X.K H a xs from q) r
  · exact I.list_inj (show SqL X.K H a xs from q) r
theorem draws {prog : Program} {w : World} {A : Around} (b : Bool) (hh : A.handled = none) (it a : Addr) (hne : a ≠ it) (items : Array Value) :
    Draws prog w A it [it, a] items.size (fun i v => items[i]? = some v) (fun i h => Cu b h it a i ∧ Pl b h a items) := by
  cases b
  · exact Draws.tuple hh it a hne items
  · exact Draws.list hh it a hne items
theorem begins (b : Bool) (a : Addr) (items : Array Value) : Begins (.ref a) (cuObj b a) fun h => Pl b h a items := by
  cases b
  · exact begins_tuple a items
  · exact begins_list a items

/-! ### zip -/
def ItzG (K : PySem.W.Frag) (b1 b2 : Bool) (a c : Addr) : L2.It :=
  ⟨fun i H => ∃ (xs ys : List V) (x y : V), Sq b1 K H a xs ∧ Sq b2 K H c ys ∧ xs[i]? = some x ∧ ys[i]? = some y,
    fun i H v H' => ∃ T x y, v = .ref T ∧ H T = none ∧ H' = upd H T (.tup [x, y]) ∧ (∀ xs, Sq b1 K H a xs → xs[i]? = some x) ∧ ∀ ys, Sq b2 K H c ys → ys[i]? = some y,
    fun i H => ∃ xs ys : List V, Sq b1 K H a xs ∧ Sq b2 K H c ys ∧ i = min xs.length ys.length⟩
structure Apart (z TI TO i1 i2 a c : Addr) : Prop where
  s : ZipSep2 z TI TO i1 i2 [i1, a] [i2, c]
  a1 : a ≠ i1
  c2 : c ≠ i2
theorem turn_zipG {P : Program} {w : World} {K : PySem.W.Frag} {elts : List Expr} {kk : Nat} {tpos : Pos} {b1 b2 : Bool} {a c z TI TO i1 i2 : Addr} (D : Apart z TI TO i1 i2 a c) :
    Turn P w K (.Tuple elts kk tpos) (ItzG K b1 b2 a c) [z, TI, TO, i1, i2] z (fun i h => IsZip h z TI TO .none ∧ IsTupOf2 h TI (.ref i1) (.ref i2) ∧ (∃ x y, IsTupOf2 h TO x y) ∧ Cu b1 h i1 a i ∧ Cu b2 h i2 c i) where
  mem := by simp
  obj := by
    rintro i h ⟨hz, hTI, ⟨x, y, hTO⟩, h1, h2⟩ q hq
    simp only [List.mem_cons, List.not_mem_nil, or_false] at hq
    rcases hq with rfl | rfl | rfl | rfl | rfl
    · exact ⟨_, hz, fun v q => nomatch q⟩
    · exact ⟨_, hTI, fun v q => nomatch q⟩
    · exact ⟨_, hTO, fun v q => nomatch q⟩
    · exact cu_obj h1
    · exact cu_obj h2
  keep := by
    rintro i h h' ⟨hz, hTI, ⟨x, y, hTO⟩, h1, h2⟩ k
    exact ⟨k z (by simp) _ hz, k TI (by simp) _ hTI, ⟨x, y, k TO (by simp) _ hTO⟩, cu_keep h1 fun o q => k i1 (by simp) o q, cu_keep h2 fun o q => k i2 (by simp) o q⟩
  item := by
    intro X hP hw hK hc i pins s σ H E I hf st hg
    subst hP hw hK
    obtain ⟨hz, hTI, ⟨x0, y0, hTO⟩, h1, h2⟩ := st
    obtain ⟨xs, ys, x, y, hqx, hqy, hx, hy⟩ := hg
    obtain ⟨its, rv, p, _⟩ := sq_inv I hqx
    obtain ⟨its2, rv2, p2, _⟩ := sq_inv I hqy
    obtain ⟨u, hu, ru⟩ := rv.get hx
    obtain ⟨u2, hu2, ru2⟩ := rv2.get hy
    have zlt : z < s.heap.objs.size := Heap.lt_size hz
    have hd : X.A.in1.handled = none := I.ok.hd hc
    have l1 : i < its.toArray.size := by have := (List.getElem?_eq_some_iff.mp hu).1; simpa using this
    have l2 : i < its2.toArray.size := by have := (List.getElem?_eq_some_iff.mp hu2).1; simpa using this
    refine wpAny_pyNext_zipD2_item D.s (draws b1 hd i1 a D.a1 its.toArray) (draws b2 hd i2 c D.c2 its2.toArray) hz hTI hTO ⟨h1, p⟩ ⟨h2, p2⟩ l1 l2 fun w1 w2 h' tk e1 e2 z' TO' st1 st2 hT hsz hk => ?_
    have ew1 : w1 = u := by
      have : its.toArray[i]? = some u := by simpa using hu
      rw [this] at e1; exact (Option.some.inj e1).symm
    have ew2 : w2 = u2 := by
      have : its2.toArray[i]? = some u2 := by simpa using hu2
      rw [this] at e2; exact (Option.some.inj e2).symm
    subst ew1; subst ew2
    refine ⟨_, rfl, wpAny_letOwnedTupleGo_zip (s := { s with heap := h', toks := tk }) z' fun h'' z'' sb => ?_⟩
    have hT2 : h''.get? s.heap.objs.size = some { cls := .type "tuple", data := .seq #[w1, w2] } := (sb.2 _ (Nat.ne_of_gt zlt)).trans hT
    have new : ObjOk X.prog X.w (upd H s.heap.objs.size (.tup [x, y])) h'' s.heap.objs.size (.tup [x, y]) :=
      ⟨by show 2 ≤ sizeLine; decide, [w1, w2], .cons ru (.cons ru2 .nil), ⟨_, hT2, rfl, _, rfl⟩⟩
    have I1 : Inv X pins σ (upd H s.heap.objs.size (.tup [x, y])) { s with heap := h'', toks := tk } := by
      refine I.turnedNew (t' := tk) (ch := [z, TI, TO, i1, i2]) (fun q o hb e => ?_) hf (Nat.le_refl _) new
      simp only [List.mem_cons, List.not_mem_nil, or_false, not_or] at hb
      exact (sb.2 q hb.1).trans (hk q o hb.1 hb.2.2.1 hb.2.2.2.1 hb.2.2.2.2 e)
    refine ⟨.ref s.heap.objs.size, _, I1, rfl, ⟨_, x, y, rfl, I.hok.fresh (Nat.le_refl _), rfl, fun l hl => by rw [sq_inj I hl hqx]; exact hx, fun l hl => by rw [sq_inj I hl hqy]; exact hy⟩, ⟨z'', ?_, ⟨w1, w2, ?_⟩, ?_, ?_⟩, fun q hq => ?_⟩
    · exact (sb.2 _ D.s.TIz).trans (hk _ _ D.s.TIz D.s.TITO D.s.TIi1 D.s.TIi2 hTI)
    · exact (sb.2 _ D.s.TOz).trans TO'
    · exact cu_keep st1.1 fun o q => (sb.2 _ D.s.zi1.symm).trans q
    · exact cu_keep st2.1 fun o q => (sb.2 _ D.s.zi2.symm).trans q
    · have hlt : q < s.heap.objs.size := by
        simp only [List.mem_cons, List.not_mem_nil, or_false] at hq
        rcases hq with rfl | rfl | rfl | rfl | rfl
        · exact zlt
        · exact Heap.lt_size hTI
        · exact Heap.lt_size hTO
        · obtain ⟨o, e, _⟩ := cu_obj h1; exact Heap.lt_size e
        · obtain ⟨o, e, _⟩ := cu_obj h2; exact Heap.lt_size e
      rw [upd_ne (Nat.ne_of_lt hlt)]
      exact (hf q hq).1
  done := by
    intro X hP hw hK hc i pins s σ H E I hf st hg
    subst hP hw hK
    obtain ⟨hz, hTI, ⟨x0, y0, hTO⟩, h1, h2⟩ := st
    obtain ⟨xs, ys, hqx, hqy, hend⟩ := hg
    obtain ⟨its, rv, p, _⟩ := sq_inv I hqx
    obtain ⟨its2, rv2, p2, _⟩ := sq_inv I hqy
    have l1 := rv.length
    have l2 := rv2.length
    have hd : X.A.in1.handled = none := I.ok.hd hc
    refine wpAny_pyNext_zipD2_end D.s (draws b1 hd i1 a D.a1 its.toArray) (draws b2 hd i2 c D.c2 its2.toArray) hz hTI hTO ⟨h1, p⟩ ⟨h2, p2⟩ (by simp; omega) (by simp; omega) (by simp; omega) fun h' tk hk => ⟨rfl, ?_⟩
    refine I.turnedL (t' := tk) (ch := [z, TI, TO, i1, i2]) (fun q o hb e => ?_) hf
    simp only [List.mem_cons, List.not_mem_nil, or_false, not_or] at hb
    exact hk q o hb.1 hb.2.2.1 hb.2.2.2.1 hb.2.2.2.2 e
  self := fun A i s Q E st h => wpAny_pyIter_zip st.1 h
def iZipG (K : PySem.W.Frag) (b1 b2 : Bool) (ta : TA) : TI := fun σ H R => ta σ H fun vs H1 => ∃ a c xs ys, vs = [.ref a, .ref c] ∧ Sq b1 K H1 a xs ∧ Sq b2 K H1 c ys ∧ R (ItzG K b1 b2 a c) H1
theorem pi_zipG {X : Cx} {b1 b2 : Bool} {e e2 : Expr} {ta : TA} {p pos tpos : Pos} {elts : List Expr} {kk : Nat} (hg : Gl X "zip") (hm : X.mg "zip" = none) (ha : PA X [e, e2] ta)
    (hs : starEach [e, e2] X.env = (false, eval e X.env) :: starEach [e2] X.env) (hpl : (backTo pos (starEach [e2] X.env)).any (·.1) = false) :
    PI X (.Tuple elts kk tpos) (.Call (.Name "zip" p) [e, e2] [] pos) (iZipG X.K b1 b2 ta) := by
  refine ⟨fun pins s σ H R I h => ?_⟩
  refine Call_ (ld_blt I hg hm PyProof.Rows.boot_zip (PyProof.Rows.callWith_type1 (thn (ha.run pos pins s σ H _ I h) fun us s1 ⟨vs, H1, I1, r1, q1⟩ => ?_) hs hpl))
  obtain ⟨a, c, xs, ys, ex, qx, qy, q⟩ := q1
  subst ex
  cases r1 with
  | cons r rr =>
    cases rr with
    | cons r' rr =>
      cases rr
      cases r
      cases r'
      obtain ⟨its, rv, p1, la⟩ := sq_inv I1 qx
      obtain ⟨its2, rv2, p2, lc⟩ := sq_inv I1 qy
      refine zip_begins2 (begins b1 a its.toArray) (begins b2 c its2.toArray) p1 p2 fun h' hz hTI hTO g1 g2 hsz hk => wpAny_pyIter_zip hz ?_
      have I2 : Inv X pins σ H1 { s1 with heap := h' } := I1.kept (t' := s1.toks) hk
      have sep := zip_sep2 (N := s1.heap.objs.size) (fp1 := [a]) (fp2 := [c]) (fun b hb => by rw [List.mem_singleton.mp hb]; exact la) (fun b hb => by rw [List.mem_singleton.mp hb]; exact lc)
      refine ⟨s1.heap.objs.size + 4, [s1.heap.objs.size + 4, s1.heap.objs.size + 2, s1.heap.objs.size + 3, s1.heap.objs.size, s1.heap.objs.size + 1], _, _, H1, rfl, I2, turn_zipG ⟨sep, Nat.ne_of_lt la, ?_⟩, ⟨hz, hTI, ⟨_, _, hTO⟩, cu_new g1, cu_new g2⟩, fun q hq => ?_, q⟩
      · exact Nat.ne_of_lt (Nat.lt_succ_of_lt lc)
      · have hle : s1.heap.objs.size ≤ q := by
          simp only [List.mem_cons, List.not_mem_nil, or_false] at hq
          rcases hq with rfl | rfl | rfl | rfl | rfl
          · exact Nat.le_add_right _ _
          · exact Nat.le_add_right _ _
          · exact Nat.le_add_right _ _
          · exact Nat.le_refl _
          · exact Nat.le_add_right _ _
        exact I1.fpOk hle (I1.hok.fresh hle)
theorem walk_zipG {K : PySem.W.Frag} {b1 b2 : Bool} {a c : Addr} {xs ys : List V} : Walk (ItzG K b1 b2 a c) (min xs.length ys.length) (fun H => Sq b1 K H a xs ∧ Sq b2 K H c ys) (YPair (fun i => xs[i]?) (fun i => ys[i]?)) where
  goes := fun i H hi hG => by
    obtain ⟨h1, h2⟩ := hG
    have l1 : i < xs.length := by omega
    have l2 : i < ys.length := by omega
    exact ⟨xs, ys, xs[i], ys[i], h1, h2, List.getElem?_eq_getElem l1, List.getElem?_eq_getElem l2⟩
  stops := fun H hG => ⟨xs, ys, hG.1, hG.2, rfl⟩
  yields := fun i H v H' hi hG y => by
    obtain ⟨T, x, y', e1, e2, e3, f1, f2⟩ := y
    exact ⟨T, x, y', e1, e2, e3, f1 xs hG.1, f2 ys hG.2⟩

/-! ### enumerate -/
def ItEG (K : PySem.W.Frag) (b : Bool) (a : Addr) : L2.It :=
  ⟨fun i H => ∃ (xs : List V) (x : V), Sq b K H a xs ∧ xs[i]? = some x, fun i H v H' => ∃ T x, v = .ref T ∧ H T = none ∧ H' = upd H T (.tup [.int (i : Nat), x]) ∧ ∀ xs, Sq b K H a xs → xs[i]? = some x, fun i H => ∃ xs : List V, Sq b K H a xs ∧ i = xs.length⟩
theorem turn_enumG {P : Program} {w : World} {K : PySem.W.Frag} {elts : List Expr} {kk : Nat} {tpos : Pos} {b : Bool} {a e it : Addr} (hne : e ≠ it) (hea : e ≠ a) (hai : a ≠ it) :
    Turn P w K (.Tuple elts kk tpos) (ItEG K b a) [e, it] e (fun i h => (∃ old, IsEnum h e it ((i : Nat) : Int) old) ∧ Cu b h it a i) where
  mem := by simp
  obj := by
    rintro i h ⟨⟨old, he⟩, hc⟩ q hq
    simp only [List.mem_cons, List.not_mem_nil, or_false] at hq
    rcases hq with rfl | rfl
    · exact ⟨_, he, fun v q => nomatch q⟩
    · exact cu_obj hc
  keep := fun i h h' st k => let ⟨⟨old, he⟩, hi⟩ := st; ⟨⟨old, k e (by simp) _ he⟩, cu_keep hi fun o q => k it (by simp) o q⟩
  item := by
    intro X hP hw hK hc i pins s σ H E I hf st hg
    subst hP hw hK
    obtain ⟨⟨old, he⟩, hit⟩ := st
    obtain ⟨xs, x, hq, hx⟩ := hg
    obtain ⟨its, rv, p, _⟩ := sq_inv I hq
    obtain ⟨u, hu, ru⟩ := rv.get hx
    have elt : e < s.heap.objs.size := Heap.lt_size he
    have ilt : it < s.heap.objs.size := by obtain ⟨o, q, _⟩ := cu_obj hit; exact Heap.lt_size q
    have hd : X.A.in1.handled = none := I.ok.hd hc
    have l1 : i < its.toArray.size := by have := (List.getElem?_eq_some_iff.mp hu).1; simpa using this
    refine wpAny_pyNext_enum_itemD (draws b hd it a hai its.toArray) he ⟨hit, p⟩ l1 hne (by simp [hne, hea]) fun w1 h' tk e1 ho st' hT hsz hk => ?_
    have ew1 : w1 = u := by
      have : its.toArray[i]? = some u := by simpa using hu
      rw [this] at e1; exact (Option.some.inj e1).symm
    subst ew1
    refine ⟨_, rfl, wpAny_letOwnedTupleGo_enum (s := { s with heap := h', toks := tk + 1 }) ho fun h'' he' sb => ?_⟩
    have hT2 : h''.get? s.heap.objs.size = some { cls := .type "tuple", data := .seq #[.int i tk, w1] } := (sb.2 _ (Nat.ne_of_gt elt)).trans hT
    have new : ObjOk X.prog X.w (upd H s.heap.objs.size (.tup [.int (i : Nat), x])) h'' s.heap.objs.size (.tup [.int (i : Nat), x]) :=
      ⟨by show 2 ≤ sizeLine; decide, [.int i tk, w1], .cons ⟨_, rfl⟩ (.cons ru .nil), ⟨_, hT2, rfl, _, rfl⟩⟩
    have I1 : Inv X pins σ (upd H s.heap.objs.size (.tup [.int (i : Nat), x])) { s with heap := h'', toks := tk + 1 } := by
      refine I.turnedNew (ch := [e, it]) (fun q o hb z => ?_) hf (Nat.le_refl _) new
      simp only [List.mem_cons, List.not_mem_nil, or_false, not_or] at hb
      exact (sb.2 q hb.1).trans (hk q o hb.1 hb.2 z)
    refine ⟨.ref s.heap.objs.size, _, I1, rfl, ⟨_, x, rfl, I.hok.fresh (Nat.le_refl _), rfl, fun ys hy => by rw [sq_inj I hy hq]; exact hx⟩, ⟨⟨w1, ?_⟩, cu_keep st'.1 fun o q => (sb.2 it (Ne.symm hne)).trans q⟩, fun q hq => ?_⟩
    · have e1 : ((i + 1 : Nat) : Int) = (i : Int) + 1 := by omega
      rw [e1]; exact he'
    · have hlt : q < s.heap.objs.size := by
        simp only [List.mem_cons, List.not_mem_nil, or_false] at hq
        rcases hq with rfl | rfl
        · exact elt
        · exact ilt
      rw [upd_ne (Nat.ne_of_lt hlt)]
      exact (hf q hq).1
  done := by
    intro X hP hw hK hc i pins s σ H E I hf st hg
    subst hP hw hK
    obtain ⟨⟨old, he⟩, hit⟩ := st
    obtain ⟨xs, hq, hx⟩ := hg
    obtain ⟨its, rv, p, _⟩ := sq_inv I hq
    have hd : X.A.in1.handled = none := I.ok.hd hc
    have hl := rv.length
    have hs : i = its.toArray.size := by simp; omega
    subst hs
    refine wpAny_pyNext_enum_endD (draws b hd it a hai its.toArray) he ⟨hit, p⟩ fun h' eb => ⟨rfl, ?_⟩
    obtain ⟨f0, f1, f2, f3, f4, f5⟩ := hf it (by simp)
    exact I.turned (t' := s.toks) (fun q o hb e => eb q o hb e) f0 f1 f3 f4 f5
  self := fun A i s Q E st h => let ⟨⟨_, he⟩, _⟩ := st; wpAny_pyIter_enum he h
theorem meets_enum1 {v : Value} {o : Obj} {G : Heap → Prop} (B : Begins v o G) :
    Meets (Builtin.«enumerate.__new__» ⟨[.type "enumerate", v], []⟩) (fun _ R s => G s.heap ∧
      R (.ok (.ret (.ref (s.heap.push o).objs.size))) { s with heap := (s.heap.push o).push { cls := .type "enumerate", data := .fields #[.none, .bool false, .ref s.heap.objs.size, rawInt 0, .none, .none] } }) :=
  .of_wp fun prog w A R s h => by
    obtain ⟨hp, g, d, tk, os⟩ := s
    obtain ⟨h1, h⟩ := h
    have hsub := sub_enumerate
    have bq : ∀ {A' : Around} {E : Value → Shared → Prop} {Q : Value → Shared → Prop}, Q (.ref hp.objs.size) ⟨hp.push o, g, d, tk, os⟩ → wpAny (model prog w) A' (pyIter v) Q E ⟨hp, g, d, tk, os⟩ := fun q => B.iter prog w _ _ ⟨hp, g, d, tk, os⟩ _ h1 q
    wp_walk using bq
    refine wpAny_stack_any fun st => wpAny_pure ?_
    split
    · rename_i c _ _ _ _ _
      cases (c == Value.type "enumerate")
      · wp_walk using bq
        exact ⟨_, rfl, h⟩
      · wp_walk using bq
        exact ⟨_, rfl, h⟩
    · wp_walk using bq
      exact ⟨_, rfl, h⟩
theorem enum1_begins {prog : Program} {w : World} {A : Around} {E : Value → Shared → Prop} {s : Shared} {v : Value} {o : Obj} {G : Heap → Prop} {Q : Value → Shared → Prop} (B : Begins v o G) (h1 : G s.heap)
    (h : ∀ h', IsEnum h' (s.heap.objs.size + 1) s.heap.objs.size 0 .none → h'.get? s.heap.objs.size = some o → (∀ b o, s.heap.get? b = some o → h'.get? b = some o) → Q (.ref (s.heap.objs.size + 1)) { s with heap := h' }) :
    wpAny (model prog w) A (call (.type "enumerate") [v]) Q E s := by
  refine callType_new F.called_enumerate (by decide) (F.typeCall_enumerate_1 _) (F.newCall_enumerate_1 _) (fun obj => F.args_object_init_2 obj _) F.entry_enumerate_new (meets_enum1 B) ⟨h1, ?_⟩
  have hz : (s.heap.push o).objs.size = s.heap.objs.size + 1 := Heap.size_push ..
  show _ ∧ _
  rw [hz]
  generalize hen : ({ cls := .type "enumerate", data := .fields #[.none, .bool false, .ref s.heap.objs.size, rawInt 0, .none, .none] } : Obj) = en
  have he : ((s.heap.push o).push en).get? (s.heap.objs.size + 1) = some en := by
    have := Heap.get?_push_size (s.heap.push o) (o := en) (by subst hen; rfl)
    rw [hz] at this; exact this
  exact ⟨⟨_, he, by subst hen; rfl⟩, h _ (by subst hen; exact he) (Heap.get?_push_of_some _ (Heap.get?_push_size _ B.free)) fun b o x => Heap.get?_push_of_some _ (Heap.get?_push_of_some _ x)⟩
def iEnumG (K : PySem.W.Frag) (b : Bool) (ta : TA) : TI := fun σ H R => ta σ H fun vs H1 => ∃ a xs, vs = [.ref a] ∧ Sq b K H1 a xs ∧ R (ItEG K b a) H1
theorem pi_enumG {X : Cx} {b : Bool} {e : Expr} {ta : TA} {p pos tpos : Pos} {elts : List Expr} {kk : Nat} (hg : Gl X "enumerate") (hm : X.mg "enumerate" = none) (ha : PA X [e] ta) (hs : starEach [e] X.env = [(false, eval e X.env)]) :
    PI X (.Tuple elts kk tpos) (.Call (.Name "enumerate" p) [e] [] pos) (iEnumG X.K b ta) := by
  refine ⟨fun pins s σ H R I h => ?_⟩
  refine Call_ (ld_blt I hg hm boot_enumerate (PyProof.Rows.callWith_type1 (thn (ha.run pos pins s σ H _ I h) fun us s1 ⟨vs, H1, I1, r1, q1⟩ => ?_) hs rfl))
  obtain ⟨a, xs, ex, hq, q⟩ := q1
  subst ex
  cases r1 with
  | cons r rr =>
    cases rr
    cases r
    obtain ⟨its, rv, p1, la⟩ := sq_inv I1 hq
    refine enum1_begins (begins b a its.toArray) p1 fun h' he g1 hk => wpAny_pyIter_enum he ?_
    have I2 : Inv X pins σ H1 { s1 with heap := h' } := I1.kept (t' := s1.toks) hk
    refine ⟨s1.heap.objs.size + 1, [s1.heap.objs.size + 1, s1.heap.objs.size], _, _, H1, rfl, I2, turn_enumG (Nat.succ_ne_self _) ?_ (Nat.ne_of_lt la), ⟨⟨.none, he⟩, cu_new g1⟩, fun q hq => ?_, q⟩
    · exact Nat.ne_of_gt (Nat.lt_succ_of_lt la)
    · have hle : s1.heap.objs.size ≤ q := by
        simp only [List.mem_cons, List.not_mem_nil, or_false] at hq
        rcases hq with rfl | rfl
        · exact Nat.le_add_right _ _
        · exact Nat.le_refl _
      exact I1.fpOk hle (I1.hok.fresh hle)
theorem walk_enumG {K : PySem.W.Frag} {b : Bool} {a : Addr} {xs : List V} : Walk (ItEG K b a) xs.length (fun H => Sq b K H a xs) (YPair (fun i => some (.int (i : Nat))) (fun i => xs[i]?)) where
  goes := fun i H hi hG => ⟨xs, xs[i], hG, List.getElem?_eq_getElem hi⟩
  stops := fun H hG => ⟨xs, hG, rfl⟩
  yields := fun i H v H' hi hG y => by
    obtain ⟨T, x, e1, e2, e3, f1⟩ := y
    exact ⟨T, _, x, e1, e2, e3, rfl, f1 xs hG⟩

/-- a list -/
def D.isL : D → Bool
  | .lst _ _ => true
  | _ => false
section
variable {L : Law} {N : List Str} {sc : Sc} {k : Nat}
theorem frz_sq {T : Tab} {Hf H : Hp} {d : D} {v : V} {ds : List D} (r : rep T Hf H (frz d) v []) (e : seqD (frz d) = some ds) : ∃ b a xs, v = .ref a ∧ Sq b T.K Hf a xs ∧ repS T Hf H ds xs [] ∧ b = d.isL := by
  obtain ⟨a, xs, rfl, hq, r3⟩ := frz_seq r e
  rcases hq with ⟨⟨m, es, rfl⟩, q⟩ | ⟨⟨es, rfl⟩, q⟩
  · exact ⟨true, a, xs, rfl, q, r3, rfl⟩
  · exact ⟨false, a, xs, rfl, q, r3, rfl⟩
theorem sq_ex {b : Bool} {K : PySem.W.Frag} {H H' : Hp} {a : Addr} {xs : List V} (e : Ex H H') (h : Sq b K H a xs) : Sq b K H' a xs := by
  cases b
  · exact ex_t e h
  · exact ex_l e h
theorem semI_enum {elts : List Expr} {kk : Nat} {tpos : Pos} {e : Expr} {e' : E} {p pos : Pos} (hg : sc.names.lookup ("enumerate" : Str) = some .globalImplicit) (hm : L.mg "enumerate" = none) (hs : ∀ env, starEach [e] env = [(false, eval e env)]) (he : SemE L N sc k e e') :
    SemI L N sc k (.Tuple elts kk tpos) (.Call (.Name "enumerate" p) [e] [] pos) (.enum e') := by
  intro X c ρ items h Hf0 H0 Hf H σ S
  simp only [evI] at h
  split at h
  · rename_i d hd
    cases hds : seqD (frz d) with
    | none => rw [hds] at h; cases h
    | some ds =>
      rw [hds] at h
      cases h
      refine ⟨_, pi_enumG (b := d.isL) (c.gl hg) (by rw [c.hmg]; exact hm) (pa_cons (pe_ e) pa_nil (by rw [hs]; rfl)) (hs _), fun R k2 =>
        he X c ρ _ true hd Hf0 H0 Hf H σ S _ fun v H1 Hf1 F1 g1 r1 n1 => ?_⟩
      obtain ⟨Hf2, g2, r2, e2⟩ := frozen g1 r1 (n1 rfl)
      obtain ⟨b, a, xs, rfl, q, r3, rfl⟩ := frz_sq r2 hds
      refine ⟨a, xs, rfl, c.hK ▸ sq_ex g2.s q, c.hK ▸ k2 _ H1 Hf2 ⟨g2, _, _, by rw [enumD_len, ← repS_len r3]; exact walk_enumG (xs := xs), fun H2 e => sq_ex e q, fun i d H3 Hf3 x H4 hd e1 e2 y => ?_⟩⟩
      obtain ⟨t, x1, x2, rfl, ht, rfl, h1, h2⟩ := y
      cases h1
      rw [enumD_get] at hd
      cases hi : ds[i]? with
      | none => rw [hi] at hd; cases hd
      | some d0 =>
        rw [hi] at hd
        have hd' : D.tup [.int (0 + (i : Int)), d0] = d := by simpa using hd
        subst hd'
        have e0 : (0 : Int) + (i : Int) = (i : Nat) := by omega
        rw [e0]
        have r4 := repS_at (repS_mono (H' := H3) e1 _ _ _ (fun _ hb => by cases hb) r3) hi h2
        obtain ⟨g5, r5⟩ := pair_new e2 ht (T := L.T) (d := .int (i : Nat)) ⟨rfl, rfl⟩ r4
        exact ⟨_, g5, r5⟩
  · cases h
theorem semI_zip {elts : List Expr} {kk : Nat} {tpos : Pos} {a b : Expr} {a' b' : E} {p pos : Pos} (hg : sc.names.lookup ("zip" : Str) = some .globalImplicit) (hm : L.mg "zip" = none) (hs : ∀ env, starEach [a, b] env = (false, eval a env) :: starEach [b] env) (hs2 : ∀ env, starEach [b] env = [(false, eval b env)])
    (hpl : ∀ pos env, (backTo pos (starEach [b] env)).any (·.1) = false) (ha : SemE L N sc k a a') (hb : SemE L N sc k b b') : SemI L N sc k (.Tuple elts kk tpos) (.Call (.Name "zip" p) [a, b] [] pos) (.zip a' b') := by
  intro X c ρ items h Hf0 H0 Hf H σ S
  simp only [evI] at h
  split at h
  · rename_i d1 d2 h1 h2
    split at h
    · rename_i ds es e1 e2
      cases h
      refine ⟨_, pi_zipG (b1 := d1.isL) (b2 := d2.isL) (c.gl hg) (by rw [c.hmg]; exact hm) (pa_cons (pe_ a) (pa_cons (pe_ b) pa_nil (by rw [hs2]; rfl)) (hs _)) (hs _) (hpl _ _), fun R k2 =>
        ha X c ρ _ true h1 Hf0 H0 Hf H σ S _ fun v H1 Hf1 F1 g1 r1 n1 => hb X c ρ _ true h2 Hf0 H0 Hf1 H1 σ (S.grow g1) _ fun u H2 Hf2 F2 g2 r2 n2 => ?_⟩
      have r1' := rep_mono g2.f _ _ _ (fun a _ o q => g2.e a o q) r1
      have n1' := (n1 rfl).grow g2 (rep_dom _ _ _ r1)
      have nn : New H Hf2 (F1 ++ F2) := New.append (Hf := Hf) (Hf1 := Hf1) g1.e n1' (rep_dom _ _ _ r1) (n2 rfl)
      have r0 : repS L.T Hf2 H2 [d1, d2] [v, u] (F1 ++ F2) := ⟨v, [u], F1, F2, rfl, rfl, r1', u, [], F2, [], rfl, by rw [List.append_nil], r2, rfl, rfl⟩
      have g3 := plus_gr (g1.trans g2) nn
      have r3 : repS L.T (plus Hf2 H2 (F1 ++ F2)) H2 (frzS [d1, d2]) [v, u] [] := repS_frz (plus_ex nn.f) _ _ _ (fun a ha o q => plus_in a ha o q) r0
      obtain ⟨v', w', G1, G2, ev, rv, rw'⟩ := repS_2 r3
      cases ev
      have z1 := fz_nil rv (frz_fz _)
      have z2 := fz_nil rw' (frz_fz _)
      subst z1; subst z2
      obtain ⟨b1, a1, xs, rfl, hq1, q1, rfl⟩ := frz_sq rv e1
      obtain ⟨b2, a2, ys, rfl, hq2, q2, rfl⟩ := frz_sq rw' e2
      have ok : ItOk L.T Hf H (zipD ds es) (ItzG L.T.K d1.isL d2.isL a1 a2) H2 (plus Hf2 H2 (F1 ++ F2)) := by
        refine ⟨g3, _, _, by rw [zipD_len, ← repS_len q1, ← repS_len q2]; exact walk_zipG (xs := xs) (ys := ys), fun H4 e => And.intro (sq_ex e hq1) (sq_ex e hq2), fun i d H3 Hf3 x H4 hd e3 e4 y => ?_⟩
        obtain ⟨t, x1, x2, rfl, ht, rfl, h3, h4⟩ := y
        have l1 := (List.getElem?_eq_some_iff.mp h3).1
        have l2 := (List.getElem?_eq_some_iff.mp h4).1
        rw [repS_len q1] at l1
        rw [repS_len q2] at l2
        have dd1 : ds[i]? = some ds[i] := List.getElem?_eq_getElem l1
        have dd2 : es[i]? = some es[i] := List.getElem?_eq_getElem l2
        rw [zipD_get ds es i _ _ dd1 dd2] at hd
        cases hd
        obtain ⟨g5, r5⟩ := pair_new e4 ht (T := L.T) (repS_at (repS_mono (H' := H3) e3 _ _ _ (fun _ hb => by cases hb) q1) dd1 h3) (repS_at (repS_mono (H' := H3) e3 _ _ _ (fun _ hb => by cases hb) q2) dd2 h4)
        exact ⟨_, g5, r5⟩
      exact ⟨a1, a2, xs, ys, rfl, c.hK ▸ sq_ex g3.s hq1, c.hK ▸ sq_ex g3.s hq2, by rw [c.hK]; exact k2 _ H2 _ ok⟩
    · cases h
  · cases h
end
end Z

/-! Z16: isinstance, max with a default, bit_length, range downward. -/
namespace Z
open PySem PySem.Spec PyProof.Rows L2
open Evl (Ex ex_l ex_t ex_rd)

def kdN : Kd → String
  | .kn => "NoneType" | .kb => "bool" | .ki => "int" | .ks => "str" | .kl => "list" | .kt => "tuple"
def isN : Is → String
  | .int => "int" | .bool => "bool" | .tuple => "tuple" | .list => "list" | .str => "str" | .cls _ => ""
theorem isK_kit {K : PySem.W.Frag} {q : Kd} {k : Is} {b : Bool} (h : isK q k = some b) : PySem.W.kitOne K (.type (kdN q)) (.type (isN k)) = some b := by
  refine kit_ty ?_
  cases k with
  | cls c => cases q <;> cases h
  | _ => cases q <;> cases h <;> decide +kernel
theorem rep_ty {T : Tab} {Hf H : Hp} {d : D} {v : V} {F : List Addr} {q : Kd} (e : Ex Hf H) (r : rep T Hf H d v F) (h : kdD d = some q) : TyX T.K H v (.type (kdN q)) := by
  cases d with
  | non => cases h; rw [r.1]; exact .base .non
  | bl b => cases h; rw [r.1]; exact .base (.bl _)
  | int i => cases h; rw [r.1]; exact .base (.int _)
  | str x => cases h; rw [r.1]; exact .base (.str _)
  | lst m ds =>
    cases h
    obtain ⟨a, xs, G, rfl, q, _⟩ := rep_lst e r
    rcases q with (q | ⟨o, q⟩) | ⟨o, its, n, hk, hc, _⟩
    · exact .base (.lst q)
    · exact .base (.frz q)
    · exact .kList hk hc
  | tup ds =>
    cases h
    obtain ⟨a, xs, rfl, q, _⟩ := rep_tup e r
    rcases q with (q | ⟨o, q⟩) | ⟨o, its, n, hk, hc, _⟩
    · exact .base (.tup q)
    · exact .fTuple q
    · exact .kTuple hk hc
  | obj m c ks ds => cases h
/-- the names of types -/
theorem sem_isi {L : Law} {N : List Str} {sc : Sc} {k : Nat} {a : Expr} {a' : E} {ty : Is} {x : Str} {p0 p1 pos : Pos} (hg : sc.names.lookup ("isinstance" : Str) = some .globalImplicit) (hm : L.mg "isinstance" = none)
    (hg1 : sc.names.lookup x = some .globalImplicit) (hm1 : L.mg x = none) (hv1 : bootBuiltins x = some (.type (isN ty))) (hn1 : x ≠ "__name__") (hd1 : (x == ("__debug__" : Str)) = false) (hty : ∀ c, ty ≠ .cls c)
    (hs : ∀ env, starEach [a, .Name x p1] env = (false, eval a env) :: starEach [.Name x p1] env) (hpl : ∀ pos env, (backTo pos (starEach [.Name x p1] env)).any (·.1) = false)
    (ha : SemE L N sc k a a') : SemE L N sc k (.Call (.Name "isinstance" p0) [a, .Name x p1] [] pos) (.isi a' ty) := by
  intro X c ρ d fr h Hf0 H0 Hf H σ S Q p
  simp only [ev] at h
  split at h
  · rename_i y f1 e1
    cases hd : isiD y ty with
    | none => rw [hd] at h; cases h
    | some b =>
      rw [hd] at h
      cases h
      obtain ⟨q, hq, hb⟩ : ∃ q, kdD y = some q ∧ isK q ty = some b := by
        unfold isiD at hd
        split at hd
        · exact absurd rfl (hty _)
        · cases hd
        · split at hd
          · rename_i q hq; exact ⟨q, hq, hd⟩
          · cases hd
      refine by_pe (pe_callB call_isi (c.gl hg) (by rw [c.hmg]; exact hm) (by decide +kernel) (pa_cons (pe_ a) (pa_cons (pe_bltn (v := .ty (isN ty)) (c.gl hg1) (by rw [c.hmg]; exact hm1) hv1 rfl hn1 hd1) pa_nil) (hs _)) (by decide) (by decide) (hs _) (hpl _ _))
        (ha X c ρ _ _ e1 Hf0 H0 Hf H σ S _ fun v H1 Hf1 F1 g1 r1 n1 => ?_)
      exact ⟨v, .ty (isN ty), .type (kdN q), .type (isN ty), b, rfl, .ty _, c.hK ▸ rep_ty g1.s r1 hq, isK_kit hb, p.flat g1 rfl⟩
  · cases h
theorem sem_isiC {L : Law} {N : List Str} {sc : Sc} {k : Nat} {a : Expr} {a' : E} {cc : Nat} {x : Str} {p0 p1 pos : Pos} (IC : C8.InsC L.T.K (L.T.cl cc)) (hg : sc.names.lookup ("isinstance" : Str) = some .globalImplicit) (hm : L.mg "isinstance" = none)
    (hg1 : sc.names.lookup x = some .globalImplicit) (hm1 : L.mg x = some (.ref (L.T.cl cc))) (hd1 : (x == ("__debug__" : Str)) = false)
    (hs : ∀ env, starEach [a, .Name x p1] env = (false, eval a env) :: starEach [.Name x p1] env) (hpl : ∀ pos env, (backTo pos (starEach [.Name x p1] env)).any (·.1) = false)
    (ha : SemE L N sc k a a') : SemE L N sc k (.Call (.Name "isinstance" p0) [a, .Name x p1] [] pos) (.isi a' (.cls cc)) := by
  intro X c ρ d fr h Hf0 H0 Hf H σ S Q p
  simp only [ev] at h
  split at h
  · rename_i y f1 e1
    cases hd : isiD y (.cls cc) with
    | none => rw [hd] at h; cases h
    | some b =>
      rw [hd] at h
      cases h
      obtain ⟨m, ks, ds, rfl, rfl⟩ : ∃ m ks ds, y = .obj m cc ks ds ∧ b = true := by
        cases y with
        | obj m c1 ks ds =>
          have hd' : (if c1 = cc then some true else none) = some b := hd
          by_cases hcc : c1 = cc
          · rw [if_pos hcc] at hd'; cases hd'; subst hcc; exact ⟨_, _, _, rfl, rfl⟩
          · rw [if_neg hcc] at hd'; cases hd'
        | _ => cases hd
      refine by_pe (pe_callB call_isi (c.gl hg) (by rw [c.hmg]; exact hm) (by decide +kernel) (pa_cons (pe_ a) (pa_cons (pe_glob (v := .ref (L.T.cl cc)) (c.gl hg1) (by rw [c.hmg]; exact hm1) rfl hd1) pa_nil) (hs _)) (by decide) (by decide) (hs _) (hpl _ _))
        (ha X c ρ _ _ e1 Hf0 H0 Hf H σ S _ fun v H1 Hf1 F1 g1 r1 n1 => ?_)
      obtain ⟨b, dx, fs, rfl, hb⟩ : ∃ b dx fs, v = .ref b ∧ H1 b = some (.ins (L.T.cl cc) dx fs) := by
        cases m with
        | some _ => obtain ⟨b, dx, fs, e, _, q, _⟩ := r1; exact ⟨b, dx, fs, e, q.2⟩
        | none => obtain ⟨b, dx, fs, e, _, q, _⟩ := r1; exact ⟨b, dx, fs, e, g1.s _ _ q⟩
      rw [← c.hK] at IC
      exact ⟨.ref b, .ref (L.T.cl cc), .ref (L.T.cl cc), .ref (L.T.cl cc), true, rfl, .own _, .base (.ins hb IC.cl IC.ha IC.hn IC.htk IC.hm), IC.me, p.flat g1 rfl⟩
  · cases h

/-! ### max(e, default=None) -/
theorem reads_ints {h : Heap} : ∀ {is : List Int} {us : List Value}, Vals (is.map V.int) us → ReadsAll h us (is.map PyData.int) []
  | [], _, .nil => .nil
  | i :: r, _, .cons q t => by
    obtain ⟨tk, rfl⟩ := q
    exact .cons (as := []) (.int i tk) (reads_ints t)
theorem depth_ints : ∀ is : List Int, PyData.depthAll (is.map PyData.int) ≤ 1
  | [] => by show PyData.depthAll [] ≤ 1; decide
  | i :: r => by
    show PyData.depthAll (PyData.int i :: r.map PyData.int) ≤ 1
    unfold PyData.depthAll
    have := depth_ints r
    have e : PyData.depth (.int i) ≤ 1 := by unfold PyData.depth; decide
    omega
theorem foldl_max : ∀ (r : List Int) (i : Int), r.foldl max i ∈ i :: r ∧ ∀ y ∈ i :: r, y ≤ r.foldl max i
  | [], i => ⟨by simp, fun y hy => by cases List.mem_singleton.mp hy; exact Int.le_refl _⟩
  | j :: r, i => by
    obtain ⟨h1, h2⟩ := foldl_max r (max i j)
    rw [List.foldl_cons]
    refine ⟨?_, fun y hy => ?_⟩
    · rcases List.mem_cons.mp h1 with e | e
      · rw [e]
        by_cases c : i ≤ j
        · rw [Int.max_eq_right c]; simp
        · rw [Int.max_eq_left (by omega)]; simp
      · exact List.mem_cons_of_mem _ (List.mem_cons_of_mem _ e)
    · have hm := h2 (max i j) List.mem_cons_self
      rcases List.mem_cons.mp hy with e | e
      · subst e; omega
      · rcases List.mem_cons.mp e with e | e
        · subst e; omega
        · exact h2 y (List.mem_cons_of_mem _ e)
theorem maxI_foldl (i : Int) (r : List Int) : maxI (i :: r) = some (r.foldl max i) := by
  cases h : maxI (i :: r) with
  | none => exact absurd (maxI_none h) (by simp)
  | some m =>
    obtain ⟨h1, h2⟩ := maxI_spec h
    obtain ⟨h3, h4⟩ := foldl_max r i
    have := h4 m h1
    have := h2 _ h3
    congr 1
    omega
section
variable {L : Law} {N : List Str} {sc : Sc} {k : Nat}
theorem sem_maxN {e : Expr} {e' : E} {j : Nat} {p0 p1 p2 pos : Pos} (hg : sc.names.lookup ("max" : Str) = some .globalImplicit) (hm : L.mg "max" = none) (hs : ∀ env, starEach [e] env = [(false, eval e env)]) (he : SemE L N sc k e e') (hh : sc.hot = false := by rfl) :
    SemE L N sc k (.Call (.Name "max" p0) [e] [⟨some "default", .Constant .none j p1, p2⟩] pos) (.blt .maxN (.cons e' .nil)) := by
  intro X c ρ d fr h Hf0 H0 Hf H σ S Q p
  simp only [ev, evs] at h
  cases hv : ev L.G e' ρ with
  | none => rw [hv] at h; cases h
  | some q =>
    obtain ⟨y, f⟩ := q
    rw [hv] at h
    have h' : (maxND y).map (·, true) = some (d, fr) := h
    cases hy : maxND y with
    | none => rw [hy] at h'; cases h'
    | some z =>
      rw [hy] at h'
      cases h'
      have hy' : ((lstI y).map fun is => match maxI is with | some i => D.int i | none => D.non) = some d := hy
      cases hl : lstI y with
      | none => rw [hl] at hy'; cases hy'
      | some is =>
        rw [hl] at hy'
        intro pins s I
        have te := he X c ρ _ _ hv Hf0 H0 Hf H σ S (fun v H1 => ∃ Hf1 F1, Gr Hf H Hf1 H1 ∧ rep L.T Hf1 H1 y v F1) fun v H1 Hf1 F1 g1 r1 _ => ⟨Hf1, F1, g1, r1⟩
        have ta : tA X [e] σ H fun vs H1 => ∃ v, vs = [v] ∧ ∃ Hf1 F1, Gr Hf H Hf1 H1 ∧ rep L.T Hf1 H1 y v F1 := by_pa (pa_cons (pe_ e) pa_nil (by rw [hs]; rfl)) (tE_mono te fun v H1 q => ⟨v, rfl, q⟩)
        refine wpAny_Call_Name_kw (ld_blt I (c.gl hg) (by rw [c.hmg]; exact hm) boot_max ?_)
        refine callWith_kw (thn (ta pos pins s I) fun us s1 ⟨vs, H1, I1, r1, v, ev, Hf1, F1, g1, rr⟩ => ?_) (by rw [hs]; rfl) (by rw [hs]; rfl)
        subst ev
        cases r1 with
        | cons rv rn =>
          cases rn
          refine kws_cons (thn ((pe_non (X := X)).run pins s1 σ H1 (fun v H2 => v = .non ∧ H2 = H1) I1 ⟨rfl, rfl⟩) fun u2 s2 ⟨v2, H2, I2, r2, e2, e3⟩ => kws_nil ?_)
          subst e2; subst e3
          cases r2
          obtain ⟨a, rfl, q⟩ := lstI_inv g1.s rr hl
          cases rv
          obtain ⟨its, rl, pl, _⟩ := I2.list (c.hK ▸ q)
          have hun := c.room.un
          have hdp := depth_ints is
          refine PySem.W.max_list_default (I2.ok.hd (c.calm hh)) pl.isList (xs := is.map PyData.int) (as := []) (by simpa using reads_ints rl) ⟨?_, ?_⟩ (by omega) (fun h0 h' tk hk => ?_) fun y0 ys i v h' tk bs hxs hi hr hk => ?_
          · intro x hx y hy
            obtain ⟨i, _, rfl⟩ := List.mem_map.mp hx
            obtain ⟨j, _, rfl⟩ := List.mem_map.mp hy
            rfl
          · intro x hx
            obtain ⟨i, _, rfl⟩ := List.mem_map.mp hx
            exact fun z => nomatch z
          · have : is = [] := by simpa using h0
            subst this
            cases hy'
            exact ⟨.non, H2, I2.kept hk, rfl, p.flat g1 rfl⟩
          · cases is with
            | nil => simp at hxs
            | cons n ns =>
              rw [List.map_cons] at hxs
              injection hxs with hx1 hx2
              subst hx1; subst hx2
              rw [PySem.W.maxD_ints] at hr
              cases hr
              simp only [Option.map_some, maxI_foldl] at hy'
              cases hy'
              exact ⟨.int _, H2, I2.kept hk, ⟨_, rfl⟩, p.flat g1 rfl⟩
theorem sem_bits {o : Expr} {o' : E} {apos pos : Pos} (hb : ∀ env, attributeBase o "bit_length" env (eval o env) = eval o env) (hl : (apos.endLine == pos.line) = true) (ho : SemE L N sc k o o') : SemE L N sc k (.Call (.Attribute o "bit_length" apos) [] [] pos) (.blt .bitlen (.cons o' .nil)) := by
  intro X c ρ d fr h Hf0 H0 Hf H σ S Q p
  simp only [ev, evs] at h
  cases hv : ev L.G o' ρ with
  | none => rw [hv] at h; cases h
  | some q =>
    obtain ⟨y, f⟩ := q
    rw [hv] at h
    have h' : (bitlenD y).map (·, true) = some (d, fr) := h
    cases y with
    | int i =>
      cases h'
      exact by_pe (pe_bits (pe_ o) (hb _) hl) (ho X c ρ _ _ hv Hf0 H0 Hf H σ S _ fun v H1 Hf1 F1 g1 r1 _ => ⟨i, r1.1, p.flat g1 rfl⟩)
    | _ => cases h'
theorem semI_down {tg a b e : Expr} {a' b' e' : E} {p pos : Pos} (hg : sc.names.lookup ("range" : Str) = some .globalImplicit) (hm : L.mg "range" = none) (hs : ∀ env, starEach [a, b, e] env = (false, eval a env) :: starEach [b, e] env) (hs2 : ∀ env, starEach [b, e] env = (false, eval b env) :: starEach [e] env) (hs3 : ∀ env, starEach [e] env = (false, eval e env) :: starEach [] env)
    (hpl : ∀ pos env, (backTo pos (starEach [b, e] env)).any (·.1) = false) (ha : SemE L N sc k a a') (hb : SemE L N sc k b b') (he : SemE L N sc k e e') : SemI L N sc k tg (.Call (.Name "range" p) [a, b, e] [] pos) (.down a' b' e') := by
  intro X c ρ items h Hf0 H0 Hf H σ S
  simp only [evI] at h
  split at h
  · rename_i i f1 j f2 l f3 h1 h2 h3
    split at h
    · rename_i ho
      cases h
      rw [Bool.and_eq_true, decide_eq_true_eq] at ho
      obtain ⟨ho, rfl⟩ := ho
      obtain ⟨o1, o2, o3, o4⟩ := rngOk_c ho
      refine ⟨_, pi_range3 (c.gl hg) (by rw [c.hmg]; exact hm) (pa_cons (pe_ a) (pa_cons (pe_ b) (pa_cons (pe_ e) pa_nil (hs3 _)) (hs2 _)) (hs _)) (hs _) (hpl _ _), fun R k2 =>
        ha X c ρ _ f1 h1 Hf0 H0 Hf H σ S _ fun v1 H1 Hf1 F1 g1 r1 _ => hb X c ρ _ f2 h2 Hf0 H0 Hf1 H1 σ (S.grow g1) _ fun v2 H2 Hf2 F2 g2 r2 _ => he X c ρ _ f3 h3 Hf0 H0 Hf2 H2 σ ((S.grow g1).grow g2) _ fun v3 H3 Hf3 F3 g3 r3 _ => ?_⟩
      refine ⟨i, j, -1, (i - j).toNat, by rw [r1.1, r2.1, r3.1], RgC.neg o1 o2 o3 o4, k2 _ H3 Hf3 ⟨(g1.trans g2).trans g3, _, _, by rw [List.length_reverse, rngD_len]; exact walk_rangeC, fun _ _ => trivial, fun q d H4 Hf4 x H5 hd e1 e2 y => ?_⟩⟩
      obtain ⟨rfl, hx⟩ := y
      subst hx
      have hq := (List.getElem?_eq_some_iff.mp hd).1
      rw [List.length_reverse, rngD_len] at hq
      rw [List.getElem?_reverse (by rw [rngD_len]; exact hq), rngD_len, rngD_get _ _ _ (by omega)] at hd
      cases hd
      refine ⟨Hf4, .refl e2, ?_, rfl⟩
      show V.int (i + (q : Int) * -1) = _
      congr 1
      omega
    · cases h
  · cases h
end
end Z

/-! Z17: the rules with their side conditions as one look each. -/
namespace Z
open PySem PySem.Spec PyProof.Rows L2
open Evl (Ex ex_l ex_t ex_rd)

def glB (sc : Sc) (x : Str) : Bool := decide (sc.names.lookup x = some .globalImplicit)
def gdB (sc : Sc) (x : Str) : Bool := glB sc x && !(x == ("__debug__" : Str)) && !(x == ("__name__" : Str))
def visB (N : List Str) (sc : Sc) (i : Nat) (x : Str) : Bool := decide (N[i]? = some x) && (decide (sc.names.lookup x = some .local) || decide (sc.names.lookup x = some .cell) || decide (sc.names.lookup x = some .free)) && !(x == ("__debug__" : Str)) && !(x == ("__classdict__" : Str))
def locB (N : List Str) (sc : Sc) (i : Nat) (x : Str) : Bool := decide (N[i]? = some x) && (decide (sc.names.lookup x = some .local) || (decide (sc.names.lookup x = some .cell) && sc.fnb x))
def blkB (N : List Str) (sc scope : Scope) (own : List (Str × Nat)) : Bool :=
  decide (scope.kind = .function) && scope.names.all (fun y => decide (scope.names.lookup y.1 = some y.2)) && own.all (fun p => decide (N[p.2]? = some p.1)) &&
    scope.names.all (fun y => !decide (y.2 = .free) || (decide (sc.names.lookup y.1 = some .cell) || decide (sc.names.lookup y.1 = some .free))) &&
    scope.names.all (fun y => !(decide (y.2 = .local) || decide (y.2 = .cell)) || (decide (y.1 ∈ own.map (·.1)) || decide (y.1 ∉ N)))
theorem blkOk_by {N : List Str} {sc scope : Scope} {own : List (Str × Nat)} (h : blkB N sc scope own = true) : BlkOk N sc scope own := by
  unfold blkB at h
  simp only [Bool.and_eq_true, List.all_eq_true, decide_eq_true_eq, Bool.or_eq_true, Bool.not_eq_true', decide_eq_false_iff_not] at h
  obtain ⟨⟨⟨⟨h1, h2⟩, h3⟩, h4⟩, h5⟩ := h
  exact ⟨h1, h2, h3, fun y hy e => (h4 y hy).resolve_left fun z => z e, fun y hy e => (h5 y hy).resolve_left fun z => by rcases e with e | e <;> simp [e] at z⟩
section
variable {L : Law} {N : List Str} {sc : Sc} {k : Nat}
theorem glB_ {x : Str} (h : glB sc x = true) : sc.names.lookup x = some .globalImplicit := of_decide_eq_true h
theorem gdB_ {x : Str} (h : gdB sc x = true) : sc.names.lookup x = some .globalImplicit ∧ (x == ("__debug__" : Str)) = false ∧ x ≠ "__name__" := by
  unfold gdB at h
  simp only [Bool.and_eq_true, Bool.not_eq_true'] at h
  exact ⟨glB_ h.1.1, h.1.2, fun z => by have := h.2; rw [z] at this; simp at this⟩
theorem visB_ {i : Nat} {x : Str} (h : visB N sc i x = true) : N[i]? = some x ∧ Vis sc.toScope x ∧ (x == ("__debug__" : Str)) = false ∧ (x == ("__classdict__" : Str)) = false := by
  unfold visB at h
  simp only [Bool.and_eq_true, Bool.or_eq_true, decide_eq_true_eq, Bool.not_eq_true'] at h
  obtain ⟨⟨⟨h1, h2⟩, h3⟩, h4⟩ := h
  refine ⟨h1, ?_, h3, h4⟩
  rcases h2 with (h2 | h2) | h2
  · exact .inl h2
  · exact .inr (.inl h2)
  · exact .inr (.inr h2)
theorem locB_ {i : Nat} {x : Str} (h : locB N sc i x = true) : N[i]? = some x ∧ (sc.names.lookup x = some .local ∨ (sc.names.lookup x = some .cell ∧ sc.fnb x = true)) := by
  unfold locB at h
  simp only [Bool.and_eq_true, Bool.or_eq_true, decide_eq_true_eq] at h
  exact h
theorem z_slot {i : Nat} {x : Str} {pos : Pos} (h : visB N sc i x = true) : SemE L N sc k (.Name x pos) (.slot i) := let ⟨a, b, c, d⟩ := visB_ h; sem_slot a b c d
theorem z_fld {ns : List Str} {a : Expr} {a' : E} {kk : Nat} {f : Str} {pos : Pos} (O : LawOk L) (hn : L.T.nm = ns) (hf : ns[kk]? = some f) (hb : ∀ env, attributeBase a f env (eval a env) = eval a env) (ha : SemE L N sc k a a') : SemE L N sc k (.Attribute a f pos) (.fld a' kk) := sem_fld O (hn ▸ hf) hb ha
theorem callG {b : Bn} {f : Value} (hb : b ≠ .len) (h : CallT L k f (bltD b)) : CallT L k f (bltG L.G b) := by rw [bltG_ne hb]; exact h
theorem z_b {e : Expr} {es : List Expr} {es' : Es} {b : Bn} {id : String} {x : Str} {p0 pos : Pos} (hc : CallT L k (.builtin id) (bltG L.G b)) (hm : L.mg x = none) (hv : bootBuiltins x = some (.builtin id)) (h : gdB sc x = true) (hs : ∀ env, starEach (e :: es) env = (false, eval e env) :: starEach es env) (hpl : ∀ pos env, (backTo pos (starEach es env)).any (·.1) = false) (ha : SemA L N sc k (e :: es) es') (hh : sc.hot = false := by rfl) :
    SemE L N sc k (.Call (.Name x p0) (e :: es) [] pos) (.blt b es') := let ⟨a, d, n⟩ := gdB_ h; sem_blt hc a hm hv n d hs hpl ha hh
theorem z_t {e : Expr} {es : List Expr} {es' : Es} {b : Bn} {id : String} {x : Str} {p0 pos : Pos} (hc : CallT L k (.type id) (bltG L.G b)) (hm : L.mg x = none) (hv : bootBuiltins x = some (.type id)) (h : gdB sc x = true) (hs : ∀ env, starEach (e :: es) env = (false, eval e env) :: starEach es env) (hpl : ∀ pos env, (backTo pos (starEach es env)).any (·.1) = false) (ha : SemA L N sc k (e :: es) es') (hh : sc.hot = false := by rfl) :
    SemE L N sc k (.Call (.Name x p0) (e :: es) [] pos) (.blt b es') := let ⟨a, d, n⟩ := gdB_ h; sem_bltT hc a hm hv n d hs hpl ha hh
theorem z_isi {a : Expr} {a' : E} {ty : Is} {x : Str} {p0 p1 pos : Pos} (hm : L.mg "isinstance" = none) (hm1 : L.mg x = none) (hv1 : bootBuiltins x = some (.type (isN ty))) (h : (glB sc "isinstance" && gdB sc x) = true) (hty : ∀ c, ty ≠ .cls c)
    (hs : ∀ env, starEach [a, .Name x p1] env = (false, eval a env) :: starEach [.Name x p1] env) (ha : SemE L N sc k a a') : SemE L N sc k (.Call (.Name "isinstance" p0) [a, .Name x p1] [] pos) (.isi a' ty) := by
  rw [Bool.and_eq_true] at h
  obtain ⟨q, d, n⟩ := gdB_ h.2
  exact sem_isi (glB_ h.1) hm q hm1 hv1 n d hty hs (fun _ _ => rfl) ha
theorem z_isiC {a : Expr} {a' : E} {cc : Nat} {x : Str} {p0 p1 pos : Pos} (IC : C8.InsC L.T.K (L.T.cl cc)) (hm : L.mg "isinstance" = none) (hm1 : L.mg x = some (.ref (L.T.cl cc))) (h : (glB sc "isinstance" && gdB sc x) = true)
    (hs : ∀ env, starEach [a, .Name x p1] env = (false, eval a env) :: starEach [.Name x p1] env) (ha : SemE L N sc k a a') : SemE L N sc k (.Call (.Name "isinstance" p0) [a, .Name x p1] [] pos) (.isi a' (.cls cc)) := by
  rw [Bool.and_eq_true] at h
  obtain ⟨q, d, n⟩ := gdB_ h.2
  exact sem_isiC IC (glB_ h.1) hm q hm1 d hs (fun _ _ => rfl) ha
theorem z_call {f k' : Nat} {x : Str} {e : Expr} {es : List Expr} {es' : Es} {p0 pos : Pos} (C : C8.Cal L.P L.w L.T.K L.mg L.base k' x (spD L.T (L.G.call f)) []) (hk : k' ≤ k) (h : gdB sc x = true)
    (hs : ∀ env, starEach (e :: es) env = (false, eval e env) :: starEach es env) (hpl : ∀ pos env, (backTo pos (starEach es env)).any (·.1) = false) (ha : SemA L N sc k (e :: es) es') : SemE L N sc k (.Call (.Name x p0) (e :: es) [] pos) (.call f es' []) :=
  let ⟨a, d, _⟩ := gdB_ h; sem_call C (fun _ _ => ⟨rfl, rfl⟩) hk a d hs hpl ha
theorem z_call0 {f k' : Nat} {x : Str} {p0 pos : Pos} (C : C8.Cal L.P L.w L.T.K L.mg L.base k' x (spD L.T (L.G.call f)) []) (hk : k' ≤ k) (h : gdB sc x = true) : SemE L N sc k (.Call (.Name x p0) [] [] pos) (.call f .nil []) :=
  let ⟨a, d, _⟩ := gdB_ h; sem_call0 C (fun _ _ => ⟨rfl, rfl⟩) hk a d
theorem z_mk {cc k' : Nat} {x : Str} {e : Expr} {es : List Expr} {es' : Es} {p0 pos : Pos} (C : C8.Mak L.P L.w L.T.K L.mg L.base k' x (L.T.cl cc) (spI L.T cc fun _ => L.G.new cc) []) (hk : k' + 1 ≤ k) (h : gdB sc x = true)
    (hs : ∀ env, starEach (e :: es) env = (false, eval e env) :: starEach es env) (hpl : ∀ pos env, (backTo pos (starEach es env)).any (·.1) = false) (ha : SemA L N sc k (e :: es) es') : SemE L N sc k (.Call (.Name x p0) (e :: es) [] pos) (.mk cc es' []) :=
  let ⟨a, d, _⟩ := gdB_ h; sem_mk C (fun _ _ => ⟨rfl, rfl⟩) (fun _ _ h _ => h) hk a d hs hpl ha
theorem z_lc {elt tg iter : Expr} {ifs : List Expr} {scope : Scope} {own : List (Str × Nat)} {pos : Pos} {vs : List Nat} {elt' : E} {t' : Tg} {it' : It} {ifs' : Es} (hok : blkB N sc.toScope scope own = true) (hs : ∀ env x, foldedSetIterable iter env x = pure x)
    (hvs : own.map (·.2) = vs) (htg : tgIn vs t' = true) (hit : SemI L N sc k tg iter it') (hg : SemG L N (blkSc sc scope) k tg t') (hif : SemC L N (blkSc sc scope) k ifs ifs') (he : SemE L N (blkSc sc scope) k elt elt') (hh : sc.hot = false := by rfl) :
    SemE L N sc k (.ListComp elt [⟨tg, iter, ifs, 0⟩] scope pos) (.lc vs elt' t' it' ifs') := sem_lc (blkOk_by hok) hs hit hvs htg hg hif he hh
theorem z_c0 {sc : Sc} : SemC L N sc k [] .nil := .inl ⟨rfl, rfl⟩
theorem z_c1 {sc : Sc} {e : Expr} {e' : E} (h : SemT L N sc k e e') : SemC L N sc k [e] (.cons e' .nil) := .inr ⟨_, _, rfl, rfl, h⟩
theorem z_gn {i : Nat} {x : Str} {pos : Pos} (h : locB N sc i x = true) : SemG L N sc k (.Name x pos) (.name i) := semG_name (locB_ h).1 (locB_ h).2
theorem z_gt {es : List Expr} {kk : Nat} {ts : List Tg} {pos : Pos} (hn : ∀ env, (assignEach es env).length = ts.length) (hst : ∀ env, (assignEach es env).findIdx? (·.1) = none) (h : SemGs L N sc k es ts) (hh : sc.hot = false := by rfl) : SemG L N sc k (.Tuple es kk pos) (.tup ts) := semG_tup hn hst h hh
theorem z_r1 {tg a : Expr} {a' : E} {p pos : Pos} (hm : L.mg "range" = none) (hg : glB sc "range" = true) (hs : ∀ env, starEach [a] env = [(false, eval a env)]) (ha : SemE L N sc k a a') : SemI L N sc k tg (.Call (.Name "range" p) [a] [] pos) (.rng1 a') := semI_rng1 (glB_ hg) hm hs ha
theorem z_r2 {tg a b : Expr} {a' b' : E} {p pos : Pos} (hm : L.mg "range" = none) (hg : glB sc "range" = true) (hs : ∀ env, starEach [a, b] env = [(false, eval a env), (false, eval b env)]) (hs2 : ∀ env, starEach [b] env = [(false, eval b env)]) (ha : SemE L N sc k a a') (hb : SemE L N sc k b b') :
    SemI L N sc k tg (.Call (.Name "range" p) [a, b] [] pos) (.rng2 a' b') := semI_rng2 (glB_ hg) hm hs hs2 ha hb
theorem z_down {tg a b e : Expr} {a' b' e' : E} {p pos : Pos} (hm : L.mg "range" = none) (hg : glB sc "range" = true) (hs : ∀ env, starEach [a, b, e] env = (false, eval a env) :: starEach [b, e] env) (hs2 : ∀ env, starEach [b, e] env = (false, eval b env) :: starEach [e] env) (hs3 : ∀ env, starEach [e] env = (false, eval e env) :: starEach [] env)
    (hpl : ∀ pos env, (backTo pos (starEach [b, e] env)).any (·.1) = false) (ha : SemE L N sc k a a') (hb : SemE L N sc k b b') (he : SemE L N sc k e e') : SemI L N sc k tg (.Call (.Name "range" p) [a, b, e] [] pos) (.down a' b' e') := semI_down (glB_ hg) hm hs hs2 hs3 hpl ha hb he
theorem z_enum {elts : List Expr} {kk : Nat} {tpos : Pos} {e : Expr} {e' : E} {p pos : Pos} (hm : L.mg "enumerate" = none) (hg : glB sc "enumerate" = true) (hs : ∀ env, starEach [e] env = [(false, eval e env)]) (he : SemE L N sc k e e') :
    SemI L N sc k (.Tuple elts kk tpos) (.Call (.Name "enumerate" p) [e] [] pos) (.enum e') := semI_enum (glB_ hg) hm hs he
theorem z_zip {elts : List Expr} {kk : Nat} {tpos : Pos} {a b : Expr} {a' b' : E} {p pos : Pos} (hm : L.mg "zip" = none) (hg : glB sc "zip" = true) (hs : ∀ env, starEach [a, b] env = (false, eval a env) :: starEach [b] env) (hs2 : ∀ env, starEach [b] env = [(false, eval b env)])
    (hpl : ∀ pos env, (backTo pos (starEach [b] env)).any (·.1) = false) (ha : SemE L N sc k a a') (hb : SemE L N sc k b b') : SemI L N sc k (.Tuple elts kk tpos) (.Call (.Name "zip" p) [a, b] [] pos) (.zip a' b') := semI_zip (glB_ hg) hm hs hs2 hpl ha hb
theorem z_maxN {e : Expr} {e' : E} {j : Nat} {p0 p1 p2 pos : Pos} (hm : L.mg "max" = none) (hg : glB sc "max" = true) (hs : ∀ env, starEach [e] env = [(false, eval e env)]) (he : SemE L N sc k e e') (hh : sc.hot = false := by rfl) :
    SemE L N sc k (.Call (.Name "max" p0) [e] [⟨some "default", .Constant .none j p1, p2⟩] pos) (.blt .maxN (.cons e' .nil)) := sem_maxN (glB_ hg) hm hs he hh
/-! statements -/
theorem z_asg {i : Nat} {x : Str} {e : Expr} {e' : E} {pos pos' : Pos} (h : locB N sc i x = true) (hs : ∀ l env, swapsWith e (some (.Name x pos')) l env = pure false) (he : SemE L N sc k e e') : SemS L N sc k (.Assign [.Name x pos'] e pos) (.asg (.name i) e') := semS_asg (locB_ h).1 (locB_ h).2 hs he
/-- a comprehension is stored straight into a plain local -/
def swB (sc : Sc) (scope : Scope) (y : Str) (py pos : Pos) : Bool := decide (sc.kind = .function) && decide (sc.names.lookup y = some .local) && (py.line == pos.line) && !(scope.names.any fun (n, k) => n == y && (k == .local || k == .cell))
theorem z_asgLc {i : Nat} {y : Str} {py pos spos : Pos} {elt tg iter : Expr} {ifs : List Expr} {scope : Scope} {own : List (Str × Nat)} {vs : List Nat} {elt' : E} {t' : Tg} {it' : It} {ifs' : Es} (hN : locB N sc i y = true) (hsw : swB sc scope y py pos = true)
    (hok : blkB N sc.toScope scope own = true) (hs : ∀ env x, foldedSetIterable iter env x = pure x) (hvs : own.map (·.2) = vs) (htg : tgIn vs t' = true)
    (hit : SemI L N sc k tg iter it') (hg : SemG L N (blkSc sc scope) k tg t') (hif : SemC L N (blkSc sc scope) k ifs ifs') (he : SemE L N (blkSc sc scope) k elt elt') (hh : sc.hot = false := by rfl) :
    SemS L N sc k (.Assign [.Name y py] (.ListComp elt [⟨tg, iter, ifs, 0⟩] scope pos) spos) (.asg (.name i) (.lc vs elt' t' it' ifs')) := by
  unfold swB at hsw
  simp only [Bool.and_eq_true, decide_eq_true_eq] at hsw
  obtain ⟨⟨⟨h1, h2⟩, h3⟩, h4⟩ := hsw
  have bk : ∀ env : Env, env.scope = sc.toScope → env.blockKind = .function := fun env he => by
    unfold Env.blockKind
    rw [he, h1]
    rfl
  refine semS_asgLc (locB_ hN).1 h2 (fun env he hb => ?_) (fun X c => bk _ c.hsc) (blkOk_by hok) hs hit hvs htg hg hif he hh
  show (pure (env.blockKind == .function && env.kindOf y == some .local && py.line == pos.line && !(scope.names.any fun (n, k) => n == y && (k == .local || k == .cell))) : Sem Bool) = pure true
  have e1 : env.kindOf y = some .local := by unfold Env.kindOf; rw [he]; exact h2
  rw [hb, e1, h3, h4]
  rfl
/-- .. where it is not a plain local -/
def nwB (sc : Sc) (scope : Scope) (y : Str) : Bool := !decide (sc.names.lookup y = some .local) || (scope.names.any fun (n, k) => n == y && (k == .local || k == .cell))
theorem z_asgLf {i : Nat} {y : Str} {py pos spos : Pos} {elt : Expr} {gens : List Comprehension} {scope : Scope} {e' : E} (hN : locB N sc i y = true) (hnw : nwB sc scope y = true) (he : SemE L N sc k (.ListComp elt gens scope pos) e') :
    SemS L N sc k (.Assign [.Name y py] (.ListComp elt gens scope pos) spos) (.asg (.name i) e') := by
  intro X c ρ o h Hf0 H0 Hf H σ S D p
  obtain ⟨hN, hx⟩ := locB_ hN
  have sw : swapsWith (.ListComp elt gens scope pos) (some (.Name y py)) spos.line X.env = pure false := by
    show (pure (X.env.blockKind == .function && X.env.kindOf y == some .local && py.line == pos.line && !(scope.names.any fun (n, k) => n == y && (k == .local || k == .cell))) : Sem Bool) = pure false
    congr 1
    have e1 : X.env.kindOf y = sc.names.lookup y := by unfold Env.kindOf; rw [c.hsc]
    rw [e1]
    unfold nwB at hnw
    rw [Bool.or_eq_true, Bool.not_eq_true', decide_eq_false_iff_not] at hnw
    rcases hnw with q | q
    · have : (sc.names.lookup y == some NameKind.local) = false := by simpa using q
      rw [this]; simp
    · rw [q]; simp
  simp only [run1] at h
  split at h
  · rename_i d hd
    cases h
    obtain ⟨Hf1, e1, S1⟩ := S.frzL (kept e')
    have loc : Loc X.env.scope y := by
      rw [c.hsc]
      rcases hx with h | h
      · exact .inl h
      · exact .inr h.1
    have hf : X.fn y = true ∨ X.env.scope.names.lookup y = some .local := by
      rw [c.hsc]
      rcases hx with h | h
      · exact .inr h
      · exact .inl (c.fn y h.2)
    exact by_ps (ps_set (i := i) (by rw [c.hN]; exact c.nd) (by rw [c.hN]; exact hN) loc (pe_ _) sw hf) (he X c _ d true hd Hf0 H0 Hf1 H σ S1 _ fun v H2 Hf2 F g r n => p _ Hf2 H2 (e1.trans g.f) (S1.set i g r (n rfl)))
  · cases h
theorem z_app {i : Nat} {x : Str} {e : Expr} {e' : E} {p1 apos cpos pos : Pos} (h : visB N sc i x = true) (hline : (apos.endLine == cpos.line) = true) (hs : ∀ env, starEach [e] env = [(false, eval e env)]) (he : SemE L N sc k e e') :
    SemS L N sc k (.Expr (.Call (.Attribute (.Name x p1) "append" apos) [e] [] cpos) pos) (.app i e') := let ⟨a, b, c, d⟩ := visB_ h; semS_app a b c d hline hs he
theorem z_sfld {ns : List Str} {i kk : Nat} {x f : Str} {e : Expr} {e' : E} {p1 p2 pos : Pos} (O : LawOk L) (hn : L.T.nm = ns) (hf : ns[kk]? = some f) (h : visB N sc i x = true) (hs : ∀ l env, swapsWith e (some (.Attribute (.Name x p1) f p2)) l env = pure false) (he : SemE L N sc k e e') :
    SemS L N sc k (.Assign [.Attribute (.Name x p1) f p2] e pos) (.fld i kk e') := let ⟨a, b, c, d⟩ := visB_ h; semS_fld O a b c d (hn ▸ hf) hs he
theorem z_ssub {i : Nat} {x : Str} {ix e : Expr} {ix' e' : E} {p1 p2 pos : Pos} (h : visB N sc i x = true)
    (hs : ∀ l env, swapsWithSole [.Subscript (.Name x p1) ix p2] e l env = pure false) (hw : ∀ env, swappedStores [.Subscript (.Name x p1) ix p2] e env = pure none) (h1 : ∀ env, (assignEach [.Subscript (.Name x p1) ix p2] env).map (·.2) = [assign (.Subscript (.Name x p1) ix p2) env])
    (ha : ∀ env v, assign (.Subscript (.Name x p1) ix p2) env v = (do
      let ov ← holding [v] (eval (.Name x p1) env)
      let iv ← holding [v, ov] (eval ix env)
      standAt p2
      holding [v, ov, iv] (setItem ov iv v)
      release [v, ov, iv] []))
    (hi : SemE L N sc k ix ix') (he : SemE L N sc k e e') : SemS L N sc k (.Assign [.Subscript (.Name x p1) ix p2] e pos) (.sub i ix' e') := let ⟨a, b, c, d⟩ := visB_ h; semS_sub a b c d hs hw h1 ha hi he
end
/-! ### objects, levels -/
open Classical in
noncomputable def newD (G : Gd) (c : Nat) (F : Def) (ds : List D) : Option D := if h : ∃ t, ∀ a, initD G c F a ds = some t then some h.choose else none
theorem newD_of {G : Gd} {c : Nat} {F : Def} {ds : List D} {t : D} (h : ∀ a, initD G c F a ds = some t) : newD G c F ds = some t := by
  unfold newD
  have ex : ∃ t, ∀ a, initD G c F a ds = some t := ⟨t, h⟩
  rw [dif_pos ex]
  exact (ex.choose_spec 0).symm.trans (h 0)
theorem newD_inv {G : Gd} {c : Nat} {F : Def} {ds : List D} {t : D} (h : newD G c F ds = some t) : ∀ a, initD G c F a ds = some t := by
  unfold newD at h
  split at h
  · rename_i ex
    cases h
    exact ex.choose_spec
  · cases h
section
variable {P : Program} {w : World} {K : PySem.W.Frag} {mg : Str → Option Value} {base : Heap} {T : Tab} {k : Nat} {f : Addr} {fd : FuncData} {ps : List Str}
theorem fn_none : FnOk P w K mg base CX0 k f fd ps (spD T fun _ => none) :=
  ⟨fun vs H Q E ⟨_, _, _, _, _, h, _⟩ => (nomatch h), fun A outer s H args us vs Q E hr he hb hv ⟨_, _, _, _, _, h, _⟩ => (nomatch h)⟩
theorem init_none {c : Nat} : FnOk P w K mg base CX0 k f fd ps (spI T c fun _ _ => none) :=
  ⟨fun vs H Q E ⟨_, _, _, _, _, _, _, _, _, _, _, h, _⟩ => (nomatch h), fun A outer s H args us vs Q E hr he hb hv ⟨_, _, _, _, _, _, _, _, _, _, _, h, _⟩ => (nomatch h)⟩
theorem init_new {G : Gd} {c : Nat} {F : Def} (h : FnOk P w K mg base CX0 k f fd ps (spI T c (initD G c F))) : FnOk P w K mg base CX0 k f fd ps (spI T c fun _ => newD G c F) :=
  h.imp fun vs H Q E ⟨a, dx, vs', Hf, ds, d, h1, h2, h3, h4, h5, h6, h7⟩ => ⟨a, dx, vs', Hf, ds, d, h1, h2, h3, h4, h5, newD_inv h6 a, h7⟩
/-- a def of the module as the top leaves it -/
structure At (K : PySem.W.Frag) (mg : Str → Option Value) (x : Str) (st : Stmt) (ps : List Str) (f : Addr) (fd : FuncData) : Prop where
  fn : C8.Fun K x x st f fd
  mgf : mg x = some (.ref f)
  kp : PySem.W.keepIn K (.ref f) = true
  b : Binds K fd ps []
/-- a method -/
structure MtAt (K : PySem.W.Frag) (C : Addr) (x qual : Str) (st : Stmt) (ps : List Str) (f : Addr) (fd : FuncData) : Prop where
  fn : C8.Fun K x qual st f fd
  fi : PySem.W.findIn K (.ref C) x = some (some (.ref f))
  isf : PySem.W.isFn K (.ref f) = true
  kp : PySem.W.keepIn K (.ref f) = true
  b : Binds K fd ps []
theorem At.cal {x : Str} {st : Stmt} {sp : Sp} (a : At K mg x st ps f fd) (h : FnOk P w K mg base CX0 k f fd ps sp) : C8.Cal P w K mg base k x sp [] := ⟨f, fd, ps, [], h, a.mgf, a.kp, a.b, .nil⟩
theorem MtAt.own {x qual : Str} {st : Stmt} {sp : Sp} {C : Addr} (a : MtAt K C x qual st ps f fd) (h : FnOk P w K mg base CX0 k f fd ps sp) : Own P w K mg base k C x sp := ⟨f, fd, ps, h, a.b, a.fi, a.isf⟩
theorem MtAt.met {x qual : Str} {st : Stmt} {sp : Sp} {C : Addr} (a : MtAt K C x qual st ps f fd) (c : Cls K C) (h : FnOk P w K mg base CX0 k f fd ps sp) : C8.Met P w K mg base k C x sp [] := ⟨f, fd, ps, [], c, ⟨a.fi, a.isf, a.kp⟩, h, a.b, .nil⟩
theorem MtAt.mak {qual xc : Str} {st : Stmt} {sp : Sp} {C : Addr} (a : MtAt K C "__init__" qual st ps f fd) (mk : PySem.W.makesIn K C = true) (kc : PySem.W.keepIn K (.ref C) = true) (hm : mg xc = some (.ref C)) (h : FnOk P w K mg base CX0 k f fd ps sp) : C8.Mak P w K mg base k xc C sp [] :=
  ⟨f, fd, ps, [], ⟨mk, a.fi, a.isf, kc⟩, h, hm, a.b, .nil⟩
end
/-- binding is plain -/
theorem binds1 {K : PySem.W.Frag} {x qual : Str} {st : Stmt} {f : Addr} {fd : FuncData} (F : C8.Fun K x qual st f fd) (df : fd.defaults = .none) {ps : List Str}
    (h : ∀ (kV doc pm : Value) (an : Option Addr) (cdv ct : Value) (us : List Value), us.length = ps.length → bindArgs (PySem.W.fnOf x qual (C8.fnArgs st) (C8.fnBody st) (C8.fnScope st) .none kV doc pm an cdv ct) ⟨us, []⟩ = pure (ps.zip us)) : Binds K fd ps [] := F.binds df h
end Z

/-! Z18: computing with the language. -/
namespace Z
open PySem L2

theorem frzAt_nil (i : Nat) : frzAt [] i = [] := by unfold frzAt; simp
theorem frzAt_z (d : D) (ρ : Rho) : frzAt (some d :: ρ) 0 = some (frz d) :: ρ := rfl
theorem frzAt_n (ρ : Rho) : frzAt (none :: ρ) 0 = none :: ρ := rfl
theorem frzAt_s (x : Option D) (ρ : Rho) (i : Nat) : frzAt (x :: ρ) (i + 1) = x :: frzAt ρ i := by
  unfold frzAt
  simp only [List.getElem?_cons_succ, List.set_cons_succ]
  split <;> rfl
theorem frz_int (i : Int) : frz (.int i) = .int i := rfl
theorem frz_bl (i : Bool) : frz (.bl i) = .bl i := rfl
theorem frz_non : frz .non = .non := rfl
theorem frz_tup (ds : List D) : frz (.tup ds) = .tup ds := rfl
theorem frz_objn (c : Nat) (ks : List Nat) (ds : List D) : frz (.obj none c ks ds) = .obj none c ks ds := rfl
theorem frz_ro (ds : List D) : frz (.lst .ro ds) = .lst .ro (frzS ds) := rfl
theorem frz_own (ds : List D) : frz (.lst .own ds) = .lst .fz (frzS ds) := rfl
theorem frz_fz' (ds : List D) : frz (.lst .fz ds) = .lst .fz (frzS ds) := rfl
/-- never changed by freezing -/
theorem frzS_id {ds : List D} (h : ∀ d ∈ ds, frz d = d) : frzS ds = ds := by
  rw [frzS_map]
  induction ds with
  | nil => rfl
  | cons d r ih => rw [List.map_cons, h d List.mem_cons_self, ih fun x hx => h x (List.mem_cons_of_mem _ hx)]
theorem frzS_ints (ns : List Int) : frzS (ns.map D.int) = ns.map D.int := frzS_id fun d hd => by obtain ⟨i, _, rfl⟩ := List.mem_map.mp hd; rfl
theorem fz_int (i : Int) : (D.int i).fz = true := rfl
theorem fz_bl (b : Bool) : (D.bl b).fz = true := rfl
theorem fz_non : D.non.fz = true := rfl
theorem fz_tup (ds : List D) : (D.tup ds).fz = true := rfl
theorem fz_lf (ds : List D) : (D.lst .fz ds).fz = true := rfl
theorem fz_lr (ds : List D) : (D.lst .ro ds).fz = true := rfl
theorem fz_lo (ds : List D) : (D.lst .own ds).fz = false := rfl
theorem fz_on (c : Nat) (ks : List Nat) (ds : List D) : (D.obj none c ks ds).fz = true := rfl
theorem seqD_l (m : M) (ds : List D) : seqD (.lst m ds) = some ds := rfl
theorem seqD_t (ds : List D) : seqD (.tup ds) = some ds := rfl
theorem fzs_all {ds : List D} (h : ∀ d ∈ ds, d.fz = true) : fzs ds = true := List.all_eq_true.mpr h
theorem fzs_ints (ns : List Int) : fzs (ns.map D.int) = true := fzs_all fun d hd => by obtain ⟨i, _, rfl⟩ := List.mem_map.mp hd; rfl
theorem fz_frz (d : D) : (frz d).fz = true := frz_fz d
theorem at_nat (ds : List D) (i : Int) (h0 : 0 ≤ i) (h1 : i < ds.length) : at? ds i = ds[i.toNat]? := by
  unfold at? atI ixN
  rw [if_pos h0, if_pos (by omega)]
  rfl

/-! ### loops -/
theorem forD_inv {bd : D → Rho → Option Rho} {body : Rho → Option Out} (P : Nat → Rho → Prop) : ∀ {items : List D} {ρ : Rho} (k : Nat), P k ρ → (∀ i d ρ, items[i]? = some d → P (k + i) ρ → ∃ ρ1 ρ2, bd d ρ = some ρ1 ∧ (body ρ1 = some (.nx ρ2) ∨ body ρ1 = some (.ct ρ2)) ∧ P (k + i + 1) ρ2) → ∃ ρ', forD bd body items ρ = some (.nx ρ') ∧ P (k + items.length) ρ'
  | [], ρ, k, h, _ => ⟨ρ, rfl, h⟩
  | d :: r, ρ, k, h, hs => by
    obtain ⟨ρ1, ρ2, h1, h2, h3⟩ := hs 0 d ρ rfl h
    obtain ⟨ρ', h4, h5⟩ := forD_inv (bd := bd) (body := body) P (items := r) (ρ := ρ2) (k + 1) h3 fun i d' ρ hi hp => by
      have := hs (i + 1) d' ρ (by simpa using hi) (by rw [show k + (i + 1) = k + 1 + i by omega]; exact hp)
      obtain ⟨a, b, q1, q2, q3⟩ := this
      exact ⟨a, b, q1, q2, by rw [show k + 1 + i + 1 = k + (i + 1) + 1 by omega]; exact q3⟩
    refine ⟨ρ', ?_, by rw [List.length_cons, show k + (r.length + 1) = k + 1 + r.length by omega]; exact h5⟩
    rcases h2 with h2 | h2 <;> simp only [forD, h1, h2] <;> exact h4
/-- a loop over items, from the first -/
theorem for_inv {bd : D → Rho → Option Rho} {body : Rho → Option Out} (P : Nat → Rho → Prop) {items : List D} {ρ : Rho} (h : P 0 ρ) (hs : ∀ i d ρ, items[i]? = some d → P i ρ → ∃ ρ1 ρ2, bd d ρ = some ρ1 ∧ (body ρ1 = some (.nx ρ2) ∨ body ρ1 = some (.ct ρ2)) ∧ P (i + 1) ρ2) : ∃ ρ', forD bd body items ρ = some (.nx ρ') ∧ P items.length ρ' := by
  have := forD_inv (bd := bd) (body := body) P (items := items) (ρ := ρ) 0 h fun i d ρ hi hp => by
    have := hs i d ρ hi (by simpa using hp)
    simpa using this
  simpa using this
theorem compD_map {f : D → Option (Option D)} (g : D → Option D) : ∀ {items : List D}, (∀ d ∈ items, f d = some (g d)) → compD f items = some (items.filterMap g)
  | [], _ => rfl
  | d :: r, h => by
    have h1 := h d List.mem_cons_self
    have h2 := compD_map g (items := r) fun x hx => h x (List.mem_cons_of_mem _ hx)
    cases e : g d with
    | none => simp only [compD, h1, e, h2, List.filterMap_cons]
    | some y => simp only [compD, h1, e, h2, List.filterMap_cons]
/-- .. of items that are images, without a test -/
theorem compD_all {α : Type} {f : D → Option (Option D)} (c : α → D) (g : α → D) {l : List α} (h : ∀ x ∈ l, f (c x) = some (some (g x))) : compD f (l.map c) = some (l.map g) := by
  induction l with
  | nil => rfl
  | cons x r ih =>
    have h1 := h x List.mem_cons_self
    have h2 := ih fun y hy => h y (List.mem_cons_of_mem _ hy)
    simp only [List.map_cons, compD, h1, h2]
/-- .. with one -/
theorem compD_sel {α : Type} {f : D → Option (Option D)} (c : α → D) (g : α → Option D) {l : List α} (h : ∀ x ∈ l, f (c x) = some (g x)) : compD f (l.map c) = some (l.filterMap g) := by
  induction l with
  | nil => rfl
  | cons x r ih =>
    have h1 := h x List.mem_cons_self
    have h2 := ih fun y hy => h y (List.mem_cons_of_mem _ hy)
    cases e : g x with
    | none => simp only [List.map_cons, compD, h1, h2, e, List.filterMap_cons]
    | some y => simp only [List.map_cons, compD, h1, h2, e, List.filterMap_cons]
theorem rngD_map (lo : Int) : ∀ n : Nat, rngD lo n = (List.range n).map fun i : Nat => D.int (lo + i)
  | 0 => rfl
  | n + 1 => by
    apply List.ext_getElem?
    intro i
    by_cases h : i < n + 1
    · rw [rngD_get _ _ _ h, List.getElem?_map, List.getElem?_range h]
      rfl
    · rw [List.getElem?_eq_none (by rw [rngD_len]; omega), List.getElem?_eq_none (by simp; omega)]
/-! ### a statement, then the rest -/
theorem runs_nx {G : Gd} {s : S} {r : Ss} {ρ ρ' : Rho} {o : Option Out} (h : run1 G s ρ = some (.nx ρ')) (h2 : runs G r ρ' = o) : runs G (.cons s r) ρ = o := by
  simp only [runs, h]; exact h2
theorem runs_rt {G : Gd} {s : S} {r : Ss} {ρ : Rho} {d : D} (h : run1 G s ρ = some (.rt d)) : runs G (.cons s r) ρ = some (.rt d) := by
  simp only [runs, h]
theorem runD_rt {G : Gd} {f : Z.Def} {ds : List D} {d : D} (hl : ds.length = f.ps) (h : runs G f.body (startR f.n ds) = some (.rt d)) : runD G f ds = some d := by
  unfold runD
  rw [if_pos hl, h]
theorem runD_nx {G : Gd} {f : Z.Def} {ds : List D} {ρ : Rho} (hl : ds.length = f.ps) (h : runs G f.body (startR f.n ds) = some (.nx ρ)) : runD G f ds = some .non := by
  unfold runD
  rw [if_pos hl, h]

/-! ### one rule each -/
section
variable {G : Gd} {ρ : Rho}
theorem ev_slot {i : Nat} : ev G (.slot i) ρ = match ρ[i]? with | some (some d) => some (d, d.fz) | _ => none := by first | (simp only [ev]; done) | (simp only [ev]; rfl)
theorem ev_con {d : D} : ev G (.con d) ρ = if d.scal then some (d, true) else none := by first | (simp only [ev]; done) | (simp only [ev]; rfl)
theorem ev_bin {op : Operator} {a b : E} : ev G (.bin op a b) ρ = match ev G a ρ, ev G b ρ with | some (x, _), some (y, _) => (binG G op x y).map (·, true) | _, _ => none := by first | (simp only [ev]; done) | (simp only [ev]; rfl)
theorem ev_un {op : UnaryOp} {a : E} : ev G (.un op a) ρ = match ev G a ρ with | some (x, _) => (unD op x).map (·, true) | none => none := by first | (simp only [ev]; done) | (simp only [ev]; rfl)
theorem ev_cmp {op : CmpOp} {a b : E} : ev G (.cmp op a b) ρ = match ev G a ρ, ev G b ρ with | some (x, _), some (y, _) => (cmpG G op x y).map fun k => (.bl k, true) | _, _ => none := by first | (simp only [ev]; done) | (simp only [ev]; rfl)
theorem ev_chain {op op' : CmpOp} {a b c : E} : ev G (.chain op op' a b c) ρ = match ev G a ρ, ev G b ρ with
    | some (x, _), some (y, _) => match cmpD op x y with
      | some true => match ev G c ρ with
        | some (z, _) => (cmpD op' y z).map fun k => (.bl k, true)
        | none => none
      | some false => some (.bl false, true)
      | none => none
    | _, _ => none := by first | (simp only [ev]; done) | (simp only [ev]; rfl)
theorem ev_and {a b : E} : ev G (.and a b) ρ = match ev G a ρ with
    | some (.bl true, _) => match ev G b ρ with
      | some (.bl k, _) => some (.bl k, true)
      | _ => none
    | some (.bl false, _) => some (.bl false, true)
    | _ => none := by first | (simp only [ev]; done) | (simp only [ev]; rfl)
theorem ev_or {a b : E} : ev G (.or a b) ρ = match ev G a ρ with
    | some (.bl false, _) => match ev G b ρ with
      | some (.bl k, _) => some (.bl k, true)
      | _ => none
    | some (.bl true, _) => some (.bl true, true)
    | _ => none := by first | (simp only [ev]; done) | (simp only [ev]; rfl)
theorem ev_not {a : E} : ev G (.not a) ρ = match ev G a ρ with | some (.bl k, _) => some (.bl (!k), true) | _ => none := by first | (simp only [ev]; done) | (simp only [ev]; rfl)
theorem ev_ite {c a b : E} : ev G (.ite c a b) ρ = match ev G c ρ with | some (.bl true, _) => ev G a ρ | some (.bl false, _) => ev G b ρ | _ => none := by first | (simp only [ev]; done) | (simp only [ev]; rfl)
theorem ev_idx {a b : E} : ev G (.idx a b) ρ = match ev G a ρ, ev G b ρ with
    | some (x, _), some (.int i, _) => match seqD x with
      | some ds => (at? ds i).map fun d => (d, d.fz)
      | none => none
    | _, _ => none := by first | (simp only [ev]; done) | (simp only [ev]; rfl)
theorem ev_sl {a lo hi : E} : ev G (.sl a lo hi) ρ = match ev G a ρ, optI lo (ev G lo ρ), optI hi (ev G hi ρ) with
    | some (.lst _ ds, _), some l, some h => if fzs ds then
        some (.lst .own ((ds.drop (sIxD ds.length 0 l)).take (sIxD ds.length ds.length h - sIxD ds.length 0 l)), true) else none
    | some (.tup ds, _), some l, some h => some (.tup ((ds.drop (sIxD ds.length 0 l)).take (sIxD ds.length ds.length h - sIxD ds.length 0 l)), true)
    | _, _, _ => none := by first | (simp only [ev]; done) | (simp only [ev]; rfl)
theorem ev_keep {a : E} : ev G (.keep a) ρ = ev G a ρ := by first | (simp only [ev]; done) | (simp only [ev]; rfl)
theorem ev_fld {a : E} {k : Nat} : ev G (.fld a k) ρ = match ev G a ρ with | some (.obj _ _ ks ds, _) => (getF k ks ds).map fun d => (d, d.fz) | _ => none := by first | (simp only [ev]; done) | (simp only [ev]; rfl)
theorem ev_tup {es : Es} : ev G (.tup es) ρ = match evs G es ρ with | some (ds, true) => if decide (ds.length ≤ most) then some (.tup (frzS ds), true) else none | _ => none := by first | (simp only [ev]; done) | (simp only [ev]; rfl)
theorem ev_lst {es : Es} : ev G (.lst es) ρ = match evs G es ρ with | some (ds, true) => if decide (ds.length ≤ most) then some (.lst .own ds, true) else none | _ => none := by first | (simp only [ev]; done) | (simp only [ev]; rfl)
theorem ev_call {f : Nat} {es : Es} {dd : List D} : ev G (.call f es dd) ρ = match evs G es ρ with | some (ds, true) => if dd.all D.dfl then (G.call f (frzS ds ++ dd)).map (·, true) else none | _ => none := by first | (simp only [ev]; done) | (simp only [ev]; rfl)
theorem ev_mk {c : Nat} {es : Es} {dd : List D} : ev G (.mk c es dd) ρ = match evs G es ρ with | some (ds, true) => if dd.all D.dfl then (G.new c (frzS ds ++ dd)).map (·, true) else none | _ => none := by first | (simp only [ev]; done) | (simp only [ev]; rfl)
theorem ev_blt {b : Bn} {es : Es} : ev G (.blt b es) ρ = match evs G es ρ with | some (ds, _) => (bltG G b ds).map (·, true) | none => none := by first | (simp only [ev]; done) | (simp only [ev]; rfl)
theorem ev_isi {a : E} {k : Is} : ev G (.isi a k) ρ = match ev G a ρ with | some (x, _) => (isiD x k).map fun b => (.bl b, true) | none => none := by first | (simp only [ev]; done) | (simp only [ev]; rfl)
theorem ev_lc {vs : List Nat} {elt : E} {tg : Tg} {it : It} {ifs : Es} {items ds : List D} (h1 : evI G it ρ = some items) (hl : items.length ≤ 40000) (h2 : compD (lcF G vs elt tg ifs ρ) items = some ds) : ev G (.lc vs elt tg it ifs) ρ = some (.lst .own ds, true) := by
  simp only [ev, h1]
  rw [if_pos (decide_eq_true hl)]
  show ((compD (lcF G vs elt tg ifs ρ) items).map fun ds => (D.lst M.own ds, true)) = _
  rw [h2]
  rfl
theorem lcF_yes {vs : List Nat} {elt : E} {tg : Tg} {ifs : Es} {d x : D} {ρ' : Rho} (h1 : bindT tg d (wipeR ρ vs) = some ρ') (h2 : evT G ifs ρ' = some true) (h3 : ev G elt ρ' = some (x, true)) : lcF G vs elt tg ifs ρ d = some (some x) := by
  simp only [lcF, h1, h2, h3]
theorem lcF_no {vs : List Nat} {elt : E} {tg : Tg} {ifs : Es} {d : D} {ρ' : Rho} (h1 : bindT tg d (wipeR ρ vs) = some ρ') (h2 : evT G ifs ρ' = some false) : lcF G vs elt tg ifs ρ d = some none := by
  simp only [lcF, h1, h2]
theorem evs_nil : evs G .nil ρ = some ([], true) := by first | (simp only [evs]; done) | (simp only [evs]; rfl)
theorem evs_cons {e : E} {r : Es} : evs G (.cons e r) ρ = match ev G e ρ, evs G r ρ with | some (d, f), some (ds, g) => some (d :: ds, f && g) | _, _ => none := by first | (simp only [evs]; done) | (simp only [evs]; rfl)
theorem evT_nil : evT G .nil ρ = some true := by simp only [evT]
theorem evI_lst {e : E} : evI G (.lst e) ρ = match ev G e ρ with | some (d, true) => seqD (frz d) | _ => none := by first | (simp only [evI]; done) | (simp only [evI]; rfl)
theorem evI_r1 {e : E} : evI G (.rng1 e) ρ = match ev G e ρ with | some (.int j, _) => if rngOk 0 j then some (rngD 0 j.toNat) else none | _ => none := by first | (simp only [evI]; done) | (simp only [evI]; rfl)
theorem evI_r2 {a b : E} : evI G (.rng2 a b) ρ = match ev G a ρ, ev G b ρ with | some (.int i, _), some (.int j, _) => if rngOk i j then some (rngD i (j - i).toNat) else none | _, _ => none := by first | (simp only [evI]; done) | (simp only [evI]; rfl)
theorem evI_down {a b c : E} : evI G (.down a b c) ρ = match ev G a ρ, ev G b ρ, ev G c ρ with | some (.int i, _), some (.int j, _), some (.int l, _) => if rngOk i j && decide (l = -1) then some (rngD (j + 1) (i - j).toNat).reverse else none | _, _, _ => none := by first | (simp only [evI]; done) | (simp only [evI]; rfl)
theorem evI_enum {e : E} : evI G (.enum e) ρ = match ev G e ρ with | some (d, true) => (seqD (frz d)).map (enumD 0) | _ => none := by first | (simp only [evI]; done) | (simp only [evI]; rfl)
theorem evI_zip {a b : E} : evI G (.zip a b) ρ = match ev G a ρ, ev G b ρ with
    | some (x, true), some (y, true) => match seqD (frz x), seqD (frz y) with
      | some ds, some es => some (zipD ds es)
      | _, _ => none
    | _, _ => none := by first | (simp only [evI]; done) | (simp only [evI]; rfl)
theorem binG_i {op : Operator} {i : Int} {y : D} : binG G op (.int i) y = binD op (.int i) y := by cases y <;> rfl
theorem binG_l {op : Operator} {m : M} {ds : List D} {y : D} : binG G op (.lst m ds) y = binD op (.lst m ds) y := by cases y <;> rfl
theorem cmpG_i {op : CmpOp} {i : Int} {j : Int} : cmpG G op (.int i) (.int j) = cmpD op (.int i) (.int j) := by cases op <;> rfl
theorem cmpG_n {op : CmpOp} {x : D} : cmpG G op x .non = cmpD op x .non := by cases op <;> cases x <;> first | rfl | (rename_i m _ _ _; cases m <;> rfl)
theorem cmpG_tt {op : CmpOp} {xs ys : List D} : cmpG G op (.tup xs) (.tup ys) = cmpD op (.tup xs) (.tup ys) := by cases op <;> rfl
theorem cmpG_ll {op : CmpOp} {m m' : M} {xs ys : List D} : cmpG G op (.lst m xs) (.lst m' ys) = cmpD op (.lst m xs) (.lst m' ys) := by cases op <;> rfl
theorem len_l {m : M} {ds : List D} : bltG G .len [.lst m ds] = some (.int ds.length) := rfl
theorem len_t {ds : List D} : bltG G .len [.tup ds] = some (.int ds.length) := rfl
theorem int_i {i : Int} : bltG G .int [.int i] = some (.int i) := rfl
theorem int_b {b : Bool} : bltG G .int [.bl b] = some (.int (if b then 1 else 0)) := rfl
theorem tuple_l {m : M} {ds : List D} : bltG G .tuple [.lst m ds] = if fzs ds then some (.tup ds) else none := rfl
theorem tuple_t {ds : List D} : bltG G .tuple [.tup ds] = some (.tup ds) := rfl
theorem list_t {ds : List D} : bltG G .list [.tup ds] = if fzs ds then some (.lst .own ds) else none := rfl
theorem list_l {m : M} {ds : List D} : bltG G .list [.lst m ds] = if fzs ds then some (.lst .own ds) else none := rfl
/-! statements -/
theorem run1_asg {tg : Tg} {e : E} {ρ1 ρ' : Rho} {d : D} (h0 : frzL ρ (kept e) = ρ1) (h1 : ev G e ρ1 = some (d, true)) (h2 : bindT tg d ρ1 = some ρ') : run1 G (.asg tg e) ρ = some (.nx ρ') := by
  simp only [run1, h0, h1, h2, Option.map_some]
theorem run1_app {i : Nat} {e : E} {ρ1 : Rho} {d : D} {ds : List D} (h0 : frzL ρ (kept e) = ρ1) (h1 : ev G e ρ1 = some (d, true)) (h2 : ρ1[i]? = some (some (.lst .own ds))) (h3 : ds.length < most) : run1 G (.app i e) ρ = some (.nx (ρ1.set i (some (.lst .own (ds ++ [d]))))) := by
  simp only [run1, h0, h1, h2, decide_eq_true h3, if_true]
theorem run1_drop {e : E} {ρ1 : Rho} {d : D × Bool} (h0 : frzL ρ (kept e) = ρ1) (h1 : ev G e ρ1 = some d) : run1 G (.drop e) ρ = some (.nx ρ1) := by
  simp only [run1, h0, h1]
theorem run1_t {c : E} {a b : Ss} {ρ1 : Rho} (h0 : frzL ρ (peek c) = ρ1) (h1 : test G c ρ1 = some true) : run1 G (.ite c a b) ρ = runs G a ρ1 := by
  simp only [run1, h0, h1]
theorem run1_f {c : E} {a b : Ss} {ρ1 : Rho} (h0 : frzL ρ (peek c) = ρ1) (h1 : test G c ρ1 = some false) : run1 G (.ite c a b) ρ = runs G b ρ1 := by
  simp only [run1, h0, h1]
theorem run1_for {tg : Tg} {it : It} {b : Ss} {ρ1 : Rho} {items : List D} {o : Option Out} (h0 : frzL ρ (keptI it) = ρ1) (h1 : evI G it ρ1 = some items) (h2 : forD (bindT tg) (runs G b) items ρ1 = o) : run1 G (.for_ tg it b) ρ = o := by
  simp only [run1, h0, h1]
  exact h2
theorem run1_ret {e : E} {ρ1 : Rho} {d : D} (h0 : frzL ρ (kept e) = ρ1) (h1 : ev G e ρ1 = some (d, true)) : run1 G (.ret e) ρ = some (.rt d) := by
  simp only [run1, h0, h1]
theorem runs_nil : runs G .nil ρ = some (.nx ρ) := by simp only [runs]
/-- an if whose branch is run through -/
theorem runs_if {c : E} {a b : Ss} {r : Ss} {ρ1 ρ2 : Rho} {o : Option Out} (t : Bool) (h0 : frzL ρ (peek c) = ρ1) (h1 : test G c ρ1 = some t) (h2 : runs G (if t then a else b) ρ1 = some (.nx ρ2)) (h3 : runs G r ρ2 = o) : runs G (.cons (.ite c a b) r) ρ = o := by
  refine runs_nx ?_ h3
  cases t
  · rw [run1_f h0 h1]; exact h2
  · rw [run1_t h0 h1]; exact h2
theorem runs_ifr {c : E} {a b : Ss} {r : Ss} {ρ1 : Rho} {d : D} (t : Bool) (h0 : frzL ρ (peek c) = ρ1) (h1 : test G c ρ1 = some t) (h2 : runs G (if t then a else b) ρ1 = some (.rt d)) : runs G (.cons (.ite c a b) r) ρ = some (.rt d) := by
  refine runs_rt ?_
  cases t
  · rw [run1_f h0 h1]; exact h2
  · rw [run1_t h0 h1]; exact h2
theorem test_of {c : E} {b : Bool} {f : Bool} (h : ev G c ρ = some (.bl b, f)) : test G c ρ = some b := by
  simp only [test, h, truD]
end
end Z

/-! Z19: what the laws' own helpers give: a cell is an int, digits lie within their sizes. -/
namespace Z
open PySem L2
/-- a whole number? -/
def bWhole : Ss := .cons (.ret (.and (.isi (.slot 0) .int) (.not (.isi (.slot 0) .bool)))) (.nil)
def bCell : Ss := .cons (.ite (.cmp .Lt (.slot 1) (.blt .len (.cons (.slot 0) (.nil)))) (.cons (.ret (.idx (.slot 0) (.slot 1))) (.nil)) (.nil)) (.cons (.asg (.name 2) (.con (.int 17))) (.cons (.for_ (.name 3) (.lst (.slot 0)) (.cons (.asg (.name 2) (.bin .Mod (.blt .int (.cons (.bin .Add (.bin .Mult (.slot 2) (.con (.int 31))) (.bin .Mod (.blt .int (.cons (.slot 3) (.nil))) (.con (.int 1000003)))) (.nil))) (.con (.int 1000003)))) (.nil))) (.cons (.ret (.bin .Mod (.blt .int (.cons (.bin .Mult (.bin .Mult (.bin .Add (.slot 2) (.con (.int 7))) (.bin .Add (.slot 1) (.con (.int 3)))) (.con (.int 69621))) (.nil))) (.con (.int 2147483647)))) (.nil))))
def bDigits : Ss := .cons (.asg (.name 2) (.lst (.nil))) (.cons (.asg (.name 3) (.blt .int (.cons (.slot 0) (.nil)))) (.cons (.ite (.cmp .GtE (.slot 3) (.bin .Pow (.con (.int 10)) (.con (.int 18)))) (.cons (.asg (.name 3) (.bin .Sub (.slot 3) (.bin .Pow (.con (.int 10)) (.con (.int 18))))) (.cons (.for_ (.name 6) (.lst (.slot 1)) (.cons (.app 2 (.bin .Mod (.blt .int (.cons (.slot 3) (.nil))) (.slot 6))) (.cons (.asg (.name 3) (.bin .FloorDiv (.blt .int (.cons (.slot 3) (.nil))) (.slot 6))) (.nil)))) (.cons (.ret (.slot 2)) (.nil)))) (.nil)) (.cons (.asg (.name 4) (.bin .Mod (.blt .int (.cons (.slot 3) (.nil))) (.con (.int 2147483629)))) (.cons (.for_ (.name 5) (.rng1 (.blt .len (.cons (.slot 1) (.nil)))) (.cons (.asg (.name 4) (.bin .Mod (.blt .int (.cons (.bin .Add (.bin .Add (.bin .Mult (.slot 4) (.con (.int 48271))) (.bin .Mult (.con (.int 974711)) (.slot 5))) (.con (.int 12345))) (.nil))) (.con (.int 2147483647)))) (.cons (.asg (.name 7) (.bin .Mod (.blt .int (.cons (.bin .Mult (.slot 4) (.bin .Add (.bin .FloorDiv (.slot 4) (.con (.int 65537))) (.con (.int 3)))) (.nil))) (.con (.int 2147483629)))) (.cons (.app 2 (.bin .Mod (.bin .FloorDiv (.slot 7) (.con (.int 19))) (.idx (.slot 1) (.slot 5)))) (.nil))))) (.cons (.ret (.slot 2)) (.nil))))))
section
variable (G : Gd)
theorem whole_int (i : Int) : runD G ⟨1, 1, bWhole⟩ [.int i] = some (.bl true) := by
  refine runD_rt rfl ?_
  show runs G bWhole [some (.int i)] = _
  unfold bWhole
  refine runs_rt (run1_ret rfl ?_)
  simp only [ev_slot, ev_con, ev_bin, ev_un, ev_cmp, ev_chain, ev_and, ev_or, ev_not, ev_ite, ev_idx, ev_sl, ev_fld, ev_tup, ev_lst, ev_call, ev_mk, ev_blt, ev_isi, evs_nil, evs_cons, evT_nil, evT_one, evI_lst, evI_r1, evI_r2, evI_down, evI_enum, evI_zip, binG_i, binG_l, cmpG_i, cmpG_n, cmpG_tt, cmpG_ll, len_l, len_t, int_i, int_b, tuple_l, tuple_t, list_l, list_t, binD, cmpD, unD, isiD, kdD, isK, truD, test, kept, keptS, keptI, peek, peekS, frzL, frzAt_nil, frzAt_z, frzAt_n, frzAt_s, frz_int, frz_bl, frz_non, frz_tup, frz_objn, frz_ro, frz_own, frz_fz', List.getElem?_cons_zero, List.getElem?_cons_succ, List.nil_append, List.cons_append, Option.map_some, Option.map_none, Option.bind_some, List.set_cons_zero, List.set_cons_succ, List.set_nil, fz_int, fz_bl, fz_non, fz_tup, fz_lf, fz_lr, fz_lo, fz_on, D.scal, D.isN, Bool.and_true, Bool.true_and, Bool.and_self, Bool.not_true, Bool.not_false, if_true, if_false, Bool.false_eq_true, reduceIte, reduceCtorEq, seqD_l, seqD_t, frzS_ints, fzs_ints, List.length_map, Int.reduceLT, Int.reduceLE, Int.reduceNeg, Int.reduceToNat, Int.reduceAdd, Int.reduceSub, Int.reduceMul, Int.reducePow, decide_true, decide_false, Bool.or_true, Bool.true_or, Bool.or_false, Bool.false_or, Bool.false_and, Bool.and_false]
theorem whole_non : runD G ⟨1, 1, bWhole⟩ [.non] = some (.bl false) := by
  refine runD_rt rfl ?_
  show runs G bWhole [some .non] = _
  unfold bWhole
  refine runs_rt (run1_ret rfl ?_)
  simp only [ev_slot, ev_con, ev_bin, ev_un, ev_cmp, ev_chain, ev_and, ev_or, ev_not, ev_ite, ev_idx, ev_sl, ev_fld, ev_tup, ev_lst, ev_call, ev_mk, ev_blt, ev_isi, evs_nil, evs_cons, evT_nil, evT_one, evI_lst, evI_r1, evI_r2, evI_down, evI_enum, evI_zip, binG_i, binG_l, cmpG_i, cmpG_n, cmpG_tt, cmpG_ll, len_l, len_t, int_i, int_b, tuple_l, tuple_t, list_l, list_t, binD, cmpD, unD, isiD, kdD, isK, truD, test, kept, keptS, keptI, peek, peekS, frzL, frzAt_nil, frzAt_z, frzAt_n, frzAt_s, frz_int, frz_bl, frz_non, frz_tup, frz_objn, frz_ro, frz_own, frz_fz', List.getElem?_cons_zero, List.getElem?_cons_succ, List.nil_append, List.cons_append, Option.map_some, Option.map_none, Option.bind_some, List.set_cons_zero, List.set_cons_succ, List.set_nil, fz_int, fz_bl, fz_non, fz_tup, fz_lf, fz_lr, fz_lo, fz_on, D.scal, D.isN, Bool.and_true, Bool.true_and, Bool.and_self, Bool.not_true, Bool.not_false, if_true, if_false, Bool.false_eq_true, reduceIte, reduceCtorEq, seqD_l, seqD_t, frzS_ints, fzs_ints, List.length_map, Int.reduceLT, Int.reduceLE, Int.reduceNeg, Int.reduceToNat, Int.reduceAdd, Int.reduceSub, Int.reduceMul, Int.reducePow, decide_true, decide_false, Bool.or_true, Bool.true_or, Bool.or_false, Bool.false_or, Bool.false_and, Bool.and_false]
theorem ints_at {ns : List Int} {i : Nat} {d : D} (h : (ns.map D.int)[i]? = some d) : ∃ n, d = .int n ∧ ns[i]? = some n := by
  rw [List.getElem?_map] at h
  cases e : ns[i]? with
  | none => rw [e] at h; cases h
  | some n => rw [e] at h; exact ⟨n, (Option.some.inj h).symm, rfl⟩
theorem cell_ok (ns : List Int) (k : Int) (h0 : 0 ≤ k) (h1 : k < 100) : ∃ c, runD G ⟨2, 4, bCell⟩ [.lst .ro (ns.map D.int), .int k] = some (.int c) := by
  by_cases h : k < ns.length
  · have hk : k.toNat < ns.length := by omega
    refine ⟨ns[k.toNat], runD_rt rfl ?_⟩
    show runs G bCell [some (.lst .ro (ns.map D.int)), some (.int k), none, none] = _
    unfold bCell
    refine runs_ifr true rfl ?_ (runs_rt (run1_ret rfl ?_))
    · simp only [ev_slot, ev_con, ev_bin, ev_un, ev_cmp, ev_chain, ev_and, ev_or, ev_not, ev_ite, ev_idx, ev_sl, ev_fld, ev_tup, ev_lst, ev_call, ev_mk, ev_blt, ev_isi, evs_nil, evs_cons, evT_nil, evT_one, evI_lst, evI_r1, evI_r2, evI_down, evI_enum, evI_zip, binG_i, binG_l, cmpG_i, cmpG_n, cmpG_tt, cmpG_ll, len_l, len_t, int_i, int_b, tuple_l, tuple_t, list_l, list_t, binD, cmpD, unD, isiD, kdD, isK, truD, test, kept, keptS, keptI, peek, peekS, frzL, frzAt_nil, frzAt_z, frzAt_n, frzAt_s, frz_int, frz_bl, frz_non, frz_tup, frz_objn, frz_ro, frz_own, frz_fz', List.getElem?_cons_zero, List.getElem?_cons_succ, List.nil_append, List.cons_append, Option.map_some, Option.map_none, Option.bind_some, List.set_cons_zero, List.set_cons_succ, List.set_nil, fz_int, fz_bl, fz_non, fz_tup, fz_lf, fz_lr, fz_lo, fz_on, D.scal, D.isN, Bool.and_true, Bool.true_and, Bool.and_self, Bool.not_true, Bool.not_false, if_true, if_false, Bool.false_eq_true, reduceIte, reduceCtorEq, seqD_l, seqD_t, frzS_ints, fzs_ints, List.length_map, Int.reduceLT, Int.reduceLE, Int.reduceNeg, Int.reduceToNat, Int.reduceAdd, Int.reduceSub, Int.reduceMul, Int.reducePow, decide_true, decide_false, Bool.or_true, Bool.true_or, Bool.or_false, Bool.false_or, Bool.false_and, Bool.and_false, decide_eq_true h]
    · simp only [ev_slot, ev_con, ev_bin, ev_un, ev_cmp, ev_chain, ev_and, ev_or, ev_not, ev_ite, ev_idx, ev_sl, ev_fld, ev_tup, ev_lst, ev_call, ev_mk, ev_blt, ev_isi, evs_nil, evs_cons, evT_nil, evT_one, evI_lst, evI_r1, evI_r2, evI_down, evI_enum, evI_zip, binG_i, binG_l, cmpG_i, cmpG_n, cmpG_tt, cmpG_ll, len_l, len_t, int_i, int_b, tuple_l, tuple_t, list_l, list_t, binD, cmpD, unD, isiD, kdD, isK, truD, test, kept, keptS, keptI, peek, peekS, frzL, frzAt_nil, frzAt_z, frzAt_n, frzAt_s, frz_int, frz_bl, frz_non, frz_tup, frz_objn, frz_ro, frz_own, frz_fz', List.getElem?_cons_zero, List.getElem?_cons_succ, List.nil_append, List.cons_append, Option.map_some, Option.map_none, Option.bind_some, List.set_cons_zero, List.set_cons_succ, List.set_nil, fz_int, fz_bl, fz_non, fz_tup, fz_lf, fz_lr, fz_lo, fz_on, D.scal, D.isN, Bool.and_true, Bool.true_and, Bool.and_self, Bool.not_true, Bool.not_false, if_true, if_false, Bool.false_eq_true, reduceIte, reduceCtorEq, seqD_l, seqD_t, frzS_ints, fzs_ints, List.length_map, Int.reduceLT, Int.reduceLE, Int.reduceNeg, Int.reduceToNat, Int.reduceAdd, Int.reduceSub, Int.reduceMul, Int.reducePow, decide_true, decide_false, Bool.or_true, Bool.true_or, Bool.or_false, Bool.false_or, Bool.false_and, Bool.and_false]
      rw [at_nat _ _ h0 (by simpa using h)]
      simp [hk, D.fz]
  · unfold bCell
    generalize hb : (Ss.cons (.asg (.name 2) (.bin .Mod (.blt .int (.cons (.bin .Add (.bin .Mult (.slot 2) (.con (.int 31))) (.bin .Mod (.blt .int (.cons (.slot 3) (.nil))) (.con (.int 1000003)))) (.nil))) (.con (.int 1000003)))) (.nil)) = body
    obtain ⟨ρ', h1', s, v, rfl, hv⟩ := for_inv (bd := bindT (.name 3)) (body := runs G body)
        (items := ns.map D.int) (ρ := [some (.lst .ro (ns.map D.int)), some (.int k), some (.int 17), none]) (fun _ ρ => ∃ s v, ρ = [some (.lst .ro (ns.map D.int)), some (.int k), some (.int s), v] ∧ (v = none ∨ ∃ i, v = some (.int i))) ⟨17, none, rfl, .inl rfl⟩ (by
          rintro i d ρ hi ⟨s, v, rfl, hv⟩
          obtain ⟨n, rfl, _⟩ := ints_at hi
          subst hb
          have m1 : mulOk s 31 = true := by unfold mulOk; simp
          refine ⟨_, _, rfl, .inl (runs_nx (run1_asg rfl (d := .int ((s * 31 + n % 1000003) % 1000003)) ?_ rfl) runs_nil), (s * 31 + n % 1000003) % 1000003, some (.int n), rfl, .inr ⟨n, rfl⟩⟩
          simp only [ev_slot, ev_con, ev_bin, ev_un, ev_cmp, ev_chain, ev_and, ev_or, ev_not, ev_ite, ev_idx, ev_sl, ev_fld, ev_tup, ev_lst, ev_call, ev_mk, ev_blt, ev_isi, evs_nil, evs_cons, evT_nil, evT_one, evI_lst, evI_r1, evI_r2, evI_down, evI_enum, evI_zip, binG_i, binG_l, cmpG_i, cmpG_n, cmpG_tt, cmpG_ll, len_l, len_t, int_i, int_b, tuple_l, tuple_t, list_l, list_t, binD, cmpD, unD, isiD, kdD, isK, truD, test, kept, keptS, keptI, peek, peekS, frzL, frzAt_nil, frzAt_z, frzAt_n, frzAt_s, frz_int, frz_bl, frz_non, frz_tup, frz_objn, frz_ro, frz_own, frz_fz', List.getElem?_cons_zero, List.getElem?_cons_succ, List.nil_append, List.cons_append, Option.map_some, Option.map_none, Option.bind_some, List.set_cons_zero, List.set_cons_succ, List.set_nil, fz_int, fz_bl, fz_non, fz_tup, fz_lf, fz_lr, fz_lo, fz_on, D.scal, D.isN, Bool.and_true, Bool.true_and, Bool.and_self, Bool.not_true, Bool.not_false, if_true, if_false, Bool.false_eq_true, reduceIte, reduceCtorEq, seqD_l, seqD_t, frzS_ints, fzs_ints, List.length_map, Int.reduceLT, Int.reduceLE, Int.reduceNeg, Int.reduceToNat, Int.reduceAdd, Int.reduceSub, Int.reduceMul, Int.reducePow, decide_true, decide_false, Bool.or_true, Bool.true_or, Bool.or_false, Bool.false_or, Bool.false_and, Bool.and_false, m1])
    refine ⟨(s + 7) * (k + 3) * 69621 % 2147483647, runD_rt rfl ?_⟩
    show runs G _ [some (.lst .ro (ns.map D.int)), some (.int k), none, none] = _
    refine runs_if false rfl ?_ runs_nil (runs_nx (run1_asg rfl (d := .int 17) ?_ rfl) ?_)
    · simp only [ev_slot, ev_con, ev_bin, ev_un, ev_cmp, ev_chain, ev_and, ev_or, ev_not, ev_ite, ev_idx, ev_sl, ev_fld, ev_tup, ev_lst, ev_call, ev_mk, ev_blt, ev_isi, evs_nil, evs_cons, evT_nil, evT_one, evI_lst, evI_r1, evI_r2, evI_down, evI_enum, evI_zip, binG_i, binG_l, cmpG_i, cmpG_n, cmpG_tt, cmpG_ll, len_l, len_t, int_i, int_b, tuple_l, tuple_t, list_l, list_t, binD, cmpD, unD, isiD, kdD, isK, truD, test, kept, keptS, keptI, peek, peekS, frzL, frzAt_nil, frzAt_z, frzAt_n, frzAt_s, frz_int, frz_bl, frz_non, frz_tup, frz_objn, frz_ro, frz_own, frz_fz', List.getElem?_cons_zero, List.getElem?_cons_succ, List.nil_append, List.cons_append, Option.map_some, Option.map_none, Option.bind_some, List.set_cons_zero, List.set_cons_succ, List.set_nil, fz_int, fz_bl, fz_non, fz_tup, fz_lf, fz_lr, fz_lo, fz_on, D.scal, D.isN, Bool.and_true, Bool.true_and, Bool.and_self, Bool.not_true, Bool.not_false, if_true, if_false, Bool.false_eq_true, reduceIte, reduceCtorEq, seqD_l, seqD_t, frzS_ints, fzs_ints, List.length_map, Int.reduceLT, Int.reduceLE, Int.reduceNeg, Int.reduceToNat, Int.reduceAdd, Int.reduceSub, Int.reduceMul, Int.reducePow, decide_true, decide_false, Bool.or_true, Bool.true_or, Bool.or_false, Bool.false_or, Bool.false_and, Bool.and_false, decide_eq_false h]
    · simp only [ev_slot, ev_con, ev_bin, ev_un, ev_cmp, ev_chain, ev_and, ev_or, ev_not, ev_ite, ev_idx, ev_sl, ev_fld, ev_tup, ev_lst, ev_call, ev_mk, ev_blt, ev_isi, evs_nil, evs_cons, evT_nil, evT_one, evI_lst, evI_r1, evI_r2, evI_down, evI_enum, evI_zip, binG_i, binG_l, cmpG_i, cmpG_n, cmpG_tt, cmpG_ll, len_l, len_t, int_i, int_b, tuple_l, tuple_t, list_l, list_t, binD, cmpD, unD, isiD, kdD, isK, truD, test, kept, keptS, keptI, peek, peekS, frzL, frzAt_nil, frzAt_z, frzAt_n, frzAt_s, frz_int, frz_bl, frz_non, frz_tup, frz_objn, frz_ro, frz_own, frz_fz', List.getElem?_cons_zero, List.getElem?_cons_succ, List.nil_append, List.cons_append, Option.map_some, Option.map_none, Option.bind_some, List.set_cons_zero, List.set_cons_succ, List.set_nil, fz_int, fz_bl, fz_non, fz_tup, fz_lf, fz_lr, fz_lo, fz_on, D.scal, D.isN, Bool.and_true, Bool.true_and, Bool.and_self, Bool.not_true, Bool.not_false, if_true, if_false, Bool.false_eq_true, reduceIte, reduceCtorEq, seqD_l, seqD_t, frzS_ints, fzs_ints, List.length_map, Int.reduceLT, Int.reduceLE, Int.reduceNeg, Int.reduceToNat, Int.reduceAdd, Int.reduceSub, Int.reduceMul, Int.reducePow, decide_true, decide_false, Bool.or_true, Bool.true_or, Bool.or_false, Bool.false_or, Bool.false_and, Bool.and_false]
    · simp only [ev_slot, ev_con, ev_bin, ev_un, ev_cmp, ev_chain, ev_and, ev_or, ev_not, ev_ite, ev_idx, ev_sl, ev_fld, ev_tup, ev_lst, ev_call, ev_mk, ev_blt, ev_isi, evs_nil, evs_cons, evT_nil, evT_one, evI_lst, evI_r1, evI_r2, evI_down, evI_enum, evI_zip, binG_i, binG_l, cmpG_i, cmpG_n, cmpG_tt, cmpG_ll, len_l, len_t, int_i, int_b, tuple_l, tuple_t, list_l, list_t, binD, cmpD, unD, isiD, kdD, isK, truD, test, kept, keptS, keptI, peek, peekS, frzL, frzAt_nil, frzAt_z, frzAt_n, frzAt_s, frz_int, frz_bl, frz_non, frz_tup, frz_objn, frz_ro, frz_own, frz_fz', List.getElem?_cons_zero, List.getElem?_cons_succ, List.nil_append, List.cons_append, Option.map_some, Option.map_none, Option.bind_some, List.set_cons_zero, List.set_cons_succ, List.set_nil, fz_int, fz_bl, fz_non, fz_tup, fz_lf, fz_lr, fz_lo, fz_on, D.scal, D.isN, Bool.and_true, Bool.true_and, Bool.and_self, Bool.not_true, Bool.not_false, if_true, if_false, Bool.false_eq_true, reduceIte, reduceCtorEq, seqD_l, seqD_t, frzS_ints, fzs_ints, List.length_map, Int.reduceLT, Int.reduceLE, Int.reduceNeg, Int.reduceToNat, Int.reduceAdd, Int.reduceSub, Int.reduceMul, Int.reducePow, decide_true, decide_false, Bool.or_true, Bool.true_or, Bool.or_false, Bool.false_or, Bool.false_and, Bool.and_false]
      refine runs_nx (run1_for rfl (items := ns.map D.int) ?_ (by simp only [ev_slot, ev_con, ev_bin, ev_un, ev_cmp, ev_chain, ev_and, ev_or, ev_not, ev_ite, ev_idx, ev_sl, ev_fld, ev_tup, ev_lst, ev_call, ev_mk, ev_blt, ev_isi, evs_nil, evs_cons, evT_nil, evT_one, evI_lst, evI_r1, evI_r2, evI_down, evI_enum, evI_zip, binG_i, binG_l, cmpG_i, cmpG_n, cmpG_tt, cmpG_ll, len_l, len_t, int_i, int_b, tuple_l, tuple_t, list_l, list_t, binD, cmpD, unD, isiD, kdD, isK, truD, test, kept, keptS, keptI, peek, peekS, frzL, frzAt_nil, frzAt_z, frzAt_n, frzAt_s, frz_int, frz_bl, frz_non, frz_tup, frz_objn, frz_ro, frz_own, frz_fz', List.getElem?_cons_zero, List.getElem?_cons_succ, List.nil_append, List.cons_append, Option.map_some, Option.map_none, Option.bind_some, List.set_cons_zero, List.set_cons_succ, List.set_nil, fz_int, fz_bl, fz_non, fz_tup, fz_lf, fz_lr, fz_lo, fz_on, D.scal, D.isN, Bool.and_true, Bool.true_and, Bool.and_self, Bool.not_true, Bool.not_false, if_true, if_false, Bool.false_eq_true, reduceIte, reduceCtorEq, seqD_l, seqD_t, frzS_ints, fzs_ints, List.length_map, Int.reduceLT, Int.reduceLE, Int.reduceNeg, Int.reduceToNat, Int.reduceAdd, Int.reduceSub, Int.reduceMul, Int.reducePow, decide_true, decide_false, Bool.or_true, Bool.true_or, Bool.or_false, Bool.false_or, Bool.false_and, Bool.and_false]; exact h1')) (runs_rt (run1_ret rfl ?_))
      · simp only [ev_slot, ev_con, ev_bin, ev_un, ev_cmp, ev_chain, ev_and, ev_or, ev_not, ev_ite, ev_idx, ev_sl, ev_fld, ev_tup, ev_lst, ev_call, ev_mk, ev_blt, ev_isi, evs_nil, evs_cons, evT_nil, evT_one, evI_lst, evI_r1, evI_r2, evI_down, evI_enum, evI_zip, binG_i, binG_l, cmpG_i, cmpG_n, cmpG_tt, cmpG_ll, len_l, len_t, int_i, int_b, tuple_l, tuple_t, list_l, list_t, binD, cmpD, unD, isiD, kdD, isK, truD, test, kept, keptS, keptI, peek, peekS, frzL, frzAt_nil, frzAt_z, frzAt_n, frzAt_s, frz_int, frz_bl, frz_non, frz_tup, frz_objn, frz_ro, frz_own, frz_fz', List.getElem?_cons_zero, List.getElem?_cons_succ, List.nil_append, List.cons_append, Option.map_some, Option.map_none, Option.bind_some, List.set_cons_zero, List.set_cons_succ, List.set_nil, fz_int, fz_bl, fz_non, fz_tup, fz_lf, fz_lr, fz_lo, fz_on, D.scal, D.isN, Bool.and_true, Bool.true_and, Bool.and_self, Bool.not_true, Bool.not_false, if_true, if_false, Bool.false_eq_true, reduceIte, reduceCtorEq, seqD_l, seqD_t, frzS_ints, fzs_ints, List.length_map, Int.reduceLT, Int.reduceLE, Int.reduceNeg, Int.reduceToNat, Int.reduceAdd, Int.reduceSub, Int.reduceMul, Int.reducePow, decide_true, decide_false, Bool.or_true, Bool.true_or, Bool.or_false, Bool.false_or, Bool.false_and, Bool.and_false]
      · have m1 : mulOk (s + 7) (k + 3) = true := by unfold mulOk; simp; omega
        have m2 : mulOk ((s + 7) * (k + 3)) 69621 = true := by unfold mulOk; simp
        simp only [ev_slot, ev_con, ev_bin, ev_un, ev_cmp, ev_chain, ev_and, ev_or, ev_not, ev_ite, ev_idx, ev_sl, ev_fld, ev_tup, ev_lst, ev_call, ev_mk, ev_blt, ev_isi, evs_nil, evs_cons, evT_nil, evT_one, evI_lst, evI_r1, evI_r2, evI_down, evI_enum, evI_zip, binG_i, binG_l, cmpG_i, cmpG_n, cmpG_tt, cmpG_ll, len_l, len_t, int_i, int_b, tuple_l, tuple_t, list_l, list_t, binD, cmpD, unD, isiD, kdD, isK, truD, test, kept, keptS, keptI, peek, peekS, frzL, frzAt_nil, frzAt_z, frzAt_n, frzAt_s, frz_int, frz_bl, frz_non, frz_tup, frz_objn, frz_ro, frz_own, frz_fz', List.getElem?_cons_zero, List.getElem?_cons_succ, List.nil_append, List.cons_append, Option.map_some, Option.map_none, Option.bind_some, List.set_cons_zero, List.set_cons_succ, List.set_nil, fz_int, fz_bl, fz_non, fz_tup, fz_lf, fz_lr, fz_lo, fz_on, D.scal, D.isN, Bool.and_true, Bool.true_and, Bool.and_self, Bool.not_true, Bool.not_false, if_true, if_false, Bool.false_eq_true, reduceIte, reduceCtorEq, seqD_l, seqD_t, frzS_ints, fzs_ints, List.length_map, Int.reduceLT, Int.reduceLE, Int.reduceNeg, Int.reduceToNat, Int.reduceAdd, Int.reduceSub, Int.reduceMul, Int.reducePow, decide_true, decide_false, Bool.or_true, Bool.true_or, Bool.or_false, Bool.false_or, Bool.false_and, Bool.and_false, m1, m2]
/-- a size that digits may have -/
def szB (s : Int) : Bool := decide (0 < s) && (decide (s < 1073741824) || decide (s.natAbs.log2 < 9000))
theorem at_ints {ns : List Int} {i : Nat} {n : Int} (h : ns[i]? = some n) : at? (ns.map D.int) (i : Int) = some (.int n) := by
  have hl := (List.getElem?_eq_some_iff.mp h).1
  rw [at_nat _ _ (by omega) (by simp; omega), Int.toNat_natCast, List.getElem?_map, h]
  rfl
theorem map_snoc (row : List Int) (x : Int) : row.map D.int ++ [D.int x] = (row ++ [x]).map D.int := by simp
structure Digs (ss row : List Int) (i : Nat) : Prop where
  len : row.length = i
  dig : ∀ (j : Nat) (s r : Int), ss[j]? = some s → row[j]? = some r → 0 ≤ r ∧ r < s
theorem Digs.snoc {ss row : List Int} {i : Nat} {s r : Int} (d : Digs ss row i) (hs : ss[i]? = some s) (h0 : 0 ≤ r) (h1 : r < s) : Digs ss (row ++ [r]) (i + 1) := by
  refine ⟨by simp [d.len], fun j s' r' e1 e2 => ?_⟩
  rw [List.getElem?_append] at e2
  split at e2
  · exact d.dig j s' r' e1 e2
  · rename_i hj
    have : j - row.length = 0 := by
      have := (List.getElem?_eq_some_iff.mp e2).1
      simpa using this
    have ej : j = i := by have := d.len; omega
    subst ej
    rw [hs] at e1
    cases e1
    rw [this] at e2
    cases e2
    exact ⟨h0, h1⟩
theorem digits_ok (c : Int) (ss : List Int) (hss : ss.all szB = true) (hl : ss.length ≤ 1000) : ∃ row : List Int, runD G ⟨2, 8, bDigits⟩ [.int c, .lst .fz (ss.map D.int)] = some (.lst .fz (row.map D.int)) ∧ Digs ss row ss.length := by
  have hsz : ∀ {i : Nat} {s : Int}, ss[i]? = some s → szB s = true ∧ 0 < s := fun {i s} h => by
    have := List.all_eq_true.mp hss s (List.mem_of_getElem? h)
    exact ⟨this, by unfold szB at this; rw [Bool.and_eq_true] at this; exact of_decide_eq_true this.1⟩
  have hmost : (1000 : Nat) < most := by decide
  have pw : shOk 10 18 = true := by decide
  unfold bDigits
  have big : (10 : Int) ^ 18 = 1000000000000000000 := by decide
  by_cases h : (10 : Int) ^ 18 ≤ c
  · generalize hb : (Ss.cons (.app 2 (.bin .Mod (.blt .int (.cons (.slot 3) (.nil))) (.slot 6))) (.cons (.asg (.name 3) (.bin .FloorDiv (.blt .int (.cons (.slot 3) (.nil))) (.slot 6))) (.nil))) = body
    obtain ⟨ρ', h1, row, rest, v, rfl, hd⟩ := for_inv (bd := bindT (.name 6)) (body := runs G body) (items := ss.map D.int) (ρ := [some (.int c), some (.lst .fz (ss.map D.int)), some (.lst .own ([].map D.int)), some (.int (c - 10 ^ 18)), none, none, none, none])
      (fun i ρ => ∃ row rest v, ρ = [some (.int c), some (.lst .fz (ss.map D.int)), some (.lst .own (row.map D.int)), some (.int rest), none, none, v, none] ∧ Digs ss row i) ⟨[], _, none, rfl, rfl, by simp⟩ (by
        rintro i d ρ hi ⟨row, rest, v, rfl, hd⟩
        obtain ⟨s, rfl, hs⟩ := ints_at hi
        obtain ⟨z, s0⟩ := hsz hs
        have hr : (row.map D.int).length < most := by
          have := (List.getElem?_eq_some_iff.mp hs).1
          rw [List.length_map, hd.len]; omega
        subst hb
        refine ⟨_, _, rfl, .inl (runs_nx (run1_app rfl (d := .int (rest % s)) (ds := row.map D.int) ?_ rfl hr) (runs_nx (run1_asg rfl (d := .int (rest / s)) ?_ rfl) runs_nil)), row ++ [rest % s], rest / s, some (.int s), ?_, hd.snoc hs (Int.emod_nonneg _ (by omega)) (Int.emod_lt_of_pos _ s0)⟩
        · simp only [ev_slot, ev_con, ev_bin, ev_un, ev_cmp, ev_chain, ev_and, ev_or, ev_not, ev_ite, ev_idx, ev_sl, ev_fld, ev_tup, ev_lst, ev_call, ev_mk, ev_blt, ev_isi, evs_nil, evs_cons, evT_nil, evT_one, evI_lst, evI_r1, evI_r2, evI_down, evI_enum, evI_zip, binG_i, binG_l, cmpG_i, cmpG_n, cmpG_tt, cmpG_ll, len_l, len_t, int_i, int_b, tuple_l, tuple_t, list_l, list_t, binD, cmpD, unD, isiD, kdD, isK, truD, test, kept, keptS, keptI, peek, peekS, frzL, frzAt_nil, frzAt_z, frzAt_n, frzAt_s, frz_int, frz_bl, frz_non, frz_tup, frz_objn, frz_ro, frz_own, frz_fz', List.getElem?_cons_zero, List.getElem?_cons_succ, List.nil_append, List.cons_append, Option.map_some, Option.map_none, Option.bind_some, List.set_cons_zero, List.set_cons_succ, List.set_nil, fz_int, fz_bl, fz_non, fz_tup, fz_lf, fz_lr, fz_lo, fz_on, D.scal, D.isN, Bool.and_true, Bool.true_and, Bool.and_self, Bool.not_true, Bool.not_false, if_true, if_false, Bool.false_eq_true, reduceIte, reduceCtorEq, seqD_l, seqD_t, frzS_ints, fzs_ints, List.length_map, Int.reduceLT, Int.reduceLE, Int.reduceNeg, Int.reduceToNat, Int.reduceAdd, Int.reduceSub, Int.reduceMul, Int.reducePow, decide_true, decide_false, Bool.or_true, Bool.true_or, Bool.or_false, Bool.false_or, Bool.false_and, Bool.and_false, decide_eq_true s0]
        · simp only [ev_slot, ev_con, ev_bin, ev_un, ev_cmp, ev_chain, ev_and, ev_or, ev_not, ev_ite, ev_idx, ev_sl, ev_fld, ev_tup, ev_lst, ev_call, ev_mk, ev_blt, ev_isi, evs_nil, evs_cons, evT_nil, evT_one, evI_lst, evI_r1, evI_r2, evI_down, evI_enum, evI_zip, binG_i, binG_l, cmpG_i, cmpG_n, cmpG_tt, cmpG_ll, len_l, len_t, int_i, int_b, tuple_l, tuple_t, list_l, list_t, binD, cmpD, unD, isiD, kdD, isK, truD, test, kept, keptS, keptI, peek, peekS, frzL, frzAt_nil, frzAt_z, frzAt_n, frzAt_s, frz_int, frz_bl, frz_non, frz_tup, frz_objn, frz_ro, frz_own, frz_fz', List.getElem?_cons_zero, List.getElem?_cons_succ, List.nil_append, List.cons_append, Option.map_some, Option.map_none, Option.bind_some, List.set_cons_zero, List.set_cons_succ, List.set_nil, fz_int, fz_bl, fz_non, fz_tup, fz_lf, fz_lr, fz_lo, fz_on, D.scal, D.isN, Bool.and_true, Bool.true_and, Bool.and_self, Bool.not_true, Bool.not_false, if_true, if_false, Bool.false_eq_true, reduceIte, reduceCtorEq, seqD_l, seqD_t, frzS_ints, fzs_ints, List.length_map, Int.reduceLT, Int.reduceLE, Int.reduceNeg, Int.reduceToNat, Int.reduceAdd, Int.reduceSub, Int.reduceMul, Int.reducePow, decide_true, decide_false, Bool.or_true, Bool.true_or, Bool.or_false, Bool.false_or, Bool.false_and, Bool.and_false, decide_eq_true s0]
          unfold szB at z
          rw [decide_eq_true s0, Bool.true_and] at z
          simp only [ev_slot, ev_con, ev_bin, ev_un, ev_cmp, ev_chain, ev_and, ev_or, ev_not, ev_ite, ev_idx, ev_sl, ev_fld, ev_tup, ev_lst, ev_call, ev_mk, ev_blt, ev_isi, evs_nil, evs_cons, evT_nil, evT_one, evI_lst, evI_r1, evI_r2, evI_down, evI_enum, evI_zip, binG_i, binG_l, cmpG_i, cmpG_n, cmpG_tt, cmpG_ll, len_l, len_t, int_i, int_b, tuple_l, tuple_t, list_l, list_t, binD, cmpD, unD, isiD, kdD, isK, truD, test, kept, keptS, keptI, peek, peekS, frzL, frzAt_nil, frzAt_z, frzAt_n, frzAt_s, frz_int, frz_bl, frz_non, frz_tup, frz_objn, frz_ro, frz_own, frz_fz', List.getElem?_cons_zero, List.getElem?_cons_succ, List.nil_append, List.cons_append, Option.map_some, Option.map_none, Option.bind_some, List.set_cons_zero, List.set_cons_succ, List.set_nil, fz_int, fz_bl, fz_non, fz_tup, fz_lf, fz_lr, fz_lo, fz_on, D.scal, D.isN, Bool.and_true, Bool.true_and, Bool.and_self, Bool.not_true, Bool.not_false, if_true, if_false, Bool.false_eq_true, reduceIte, reduceCtorEq, seqD_l, seqD_t, frzS_ints, fzs_ints, List.length_map, Int.reduceLT, Int.reduceLE, Int.reduceNeg, Int.reduceToNat, Int.reduceAdd, Int.reduceSub, Int.reduceMul, Int.reducePow, decide_true, decide_false, Bool.or_true, Bool.true_or, Bool.or_false, Bool.false_or, Bool.false_and, Bool.and_false, z]
        · simp only [ev_slot, ev_con, ev_bin, ev_un, ev_cmp, ev_chain, ev_and, ev_or, ev_not, ev_ite, ev_idx, ev_sl, ev_fld, ev_tup, ev_lst, ev_call, ev_mk, ev_blt, ev_isi, evs_nil, evs_cons, evT_nil, evT_one, evI_lst, evI_r1, evI_r2, evI_down, evI_enum, evI_zip, binG_i, binG_l, cmpG_i, cmpG_n, cmpG_tt, cmpG_ll, len_l, len_t, int_i, int_b, tuple_l, tuple_t, list_l, list_t, binD, cmpD, unD, isiD, kdD, isK, truD, test, kept, keptS, keptI, peek, peekS, frzL, frzAt_nil, frzAt_z, frzAt_n, frzAt_s, frz_int, frz_bl, frz_non, frz_tup, frz_objn, frz_ro, frz_own, frz_fz', List.getElem?_cons_zero, List.getElem?_cons_succ, List.nil_append, List.cons_append, Option.map_some, Option.map_none, Option.bind_some, List.set_cons_zero, List.set_cons_succ, List.set_nil, fz_int, fz_bl, fz_non, fz_tup, fz_lf, fz_lr, fz_lo, fz_on, D.scal, D.isN, Bool.and_true, Bool.true_and, Bool.and_self, Bool.not_true, Bool.not_false, if_true, if_false, Bool.false_eq_true, reduceIte, reduceCtorEq, seqD_l, seqD_t, frzS_ints, fzs_ints, List.length_map, Int.reduceLT, Int.reduceLE, Int.reduceNeg, Int.reduceToNat, Int.reduceAdd, Int.reduceSub, Int.reduceMul, Int.reducePow, decide_true, decide_false, Bool.or_true, Bool.true_or, Bool.or_false, Bool.false_or, Bool.false_and, Bool.and_false, map_snoc])
    refine ⟨row, runD_rt rfl ?_, by simpa using hd⟩
    show runs G _ [some (.int c), some (.lst .fz (ss.map D.int)), none, none, none, none, none, none] = _
    refine runs_nx (run1_asg rfl (d := .lst .own []) ?_ rfl) (runs_nx (run1_asg rfl (d := .int c) ?_ rfl) (runs_ifr true rfl ?_ ?_))
    · simp only [ev_slot, ev_con, ev_bin, ev_un, ev_cmp, ev_chain, ev_and, ev_or, ev_not, ev_ite, ev_idx, ev_sl, ev_fld, ev_tup, ev_lst, ev_call, ev_mk, ev_blt, ev_isi, evs_nil, evs_cons, evT_nil, evT_one, evI_lst, evI_r1, evI_r2, evI_down, evI_enum, evI_zip, binG_i, binG_l, cmpG_i, cmpG_n, cmpG_tt, cmpG_ll, len_l, len_t, int_i, int_b, tuple_l, tuple_t, list_l, list_t, binD, cmpD, unD, isiD, kdD, isK, truD, test, kept, keptS, keptI, peek, peekS, frzL, frzAt_nil, frzAt_z, frzAt_n, frzAt_s, frz_int, frz_bl, frz_non, frz_tup, frz_objn, frz_ro, frz_own, frz_fz', List.getElem?_cons_zero, List.getElem?_cons_succ, List.nil_append, List.cons_append, Option.map_some, Option.map_none, Option.bind_some, List.set_cons_zero, List.set_cons_succ, List.set_nil, fz_int, fz_bl, fz_non, fz_tup, fz_lf, fz_lr, fz_lo, fz_on, D.scal, D.isN, Bool.and_true, Bool.true_and, Bool.and_self, Bool.not_true, Bool.not_false, if_true, if_false, Bool.false_eq_true, reduceIte, reduceCtorEq, seqD_l, seqD_t, frzS_ints, fzs_ints, List.length_map, Int.reduceLT, Int.reduceLE, Int.reduceNeg, Int.reduceToNat, Int.reduceAdd, Int.reduceSub, Int.reduceMul, Int.reducePow, decide_true, decide_false, Bool.or_true, Bool.true_or, Bool.or_false, Bool.false_or, Bool.false_and, Bool.and_false]; rfl
    · simp only [ev_slot, ev_con, ev_bin, ev_un, ev_cmp, ev_chain, ev_and, ev_or, ev_not, ev_ite, ev_idx, ev_sl, ev_fld, ev_tup, ev_lst, ev_call, ev_mk, ev_blt, ev_isi, evs_nil, evs_cons, evT_nil, evT_one, evI_lst, evI_r1, evI_r2, evI_down, evI_enum, evI_zip, binG_i, binG_l, cmpG_i, cmpG_n, cmpG_tt, cmpG_ll, len_l, len_t, int_i, int_b, tuple_l, tuple_t, list_l, list_t, binD, cmpD, unD, isiD, kdD, isK, truD, test, kept, keptS, keptI, peek, peekS, frzL, frzAt_nil, frzAt_z, frzAt_n, frzAt_s, frz_int, frz_bl, frz_non, frz_tup, frz_objn, frz_ro, frz_own, frz_fz', List.getElem?_cons_zero, List.getElem?_cons_succ, List.nil_append, List.cons_append, Option.map_some, Option.map_none, Option.bind_some, List.set_cons_zero, List.set_cons_succ, List.set_nil, fz_int, fz_bl, fz_non, fz_tup, fz_lf, fz_lr, fz_lo, fz_on, D.scal, D.isN, Bool.and_true, Bool.true_and, Bool.and_self, Bool.not_true, Bool.not_false, if_true, if_false, Bool.false_eq_true, reduceIte, reduceCtorEq, seqD_l, seqD_t, frzS_ints, fzs_ints, List.length_map, Int.reduceLT, Int.reduceLE, Int.reduceNeg, Int.reduceToNat, Int.reduceAdd, Int.reduceSub, Int.reduceMul, Int.reducePow, decide_true, decide_false, Bool.or_true, Bool.true_or, Bool.or_false, Bool.false_or, Bool.false_and, Bool.and_false]
    · rw [big] at h
      simp only [ev_slot, ev_con, ev_bin, ev_un, ev_cmp, ev_chain, ev_and, ev_or, ev_not, ev_ite, ev_idx, ev_sl, ev_fld, ev_tup, ev_lst, ev_call, ev_mk, ev_blt, ev_isi, evs_nil, evs_cons, evT_nil, evT_one, evI_lst, evI_r1, evI_r2, evI_down, evI_enum, evI_zip, binG_i, binG_l, cmpG_i, cmpG_n, cmpG_tt, cmpG_ll, len_l, len_t, int_i, int_b, tuple_l, tuple_t, list_l, list_t, binD, cmpD, unD, isiD, kdD, isK, truD, test, kept, keptS, keptI, peek, peekS, frzL, frzAt_nil, frzAt_z, frzAt_n, frzAt_s, frz_int, frz_bl, frz_non, frz_tup, frz_objn, frz_ro, frz_own, frz_fz', List.getElem?_cons_zero, List.getElem?_cons_succ, List.nil_append, List.cons_append, Option.map_some, Option.map_none, Option.bind_some, List.set_cons_zero, List.set_cons_succ, List.set_nil, fz_int, fz_bl, fz_non, fz_tup, fz_lf, fz_lr, fz_lo, fz_on, D.scal, D.isN, Bool.and_true, Bool.true_and, Bool.and_self, Bool.not_true, Bool.not_false, if_true, if_false, Bool.false_eq_true, reduceIte, reduceCtorEq, seqD_l, seqD_t, frzS_ints, fzs_ints, List.length_map, Int.reduceLT, Int.reduceLE, Int.reduceNeg, Int.reduceToNat, Int.reduceAdd, Int.reduceSub, Int.reduceMul, Int.reducePow, decide_true, decide_false, Bool.or_true, Bool.true_or, Bool.or_false, Bool.false_or, Bool.false_and, Bool.and_false, pw, show (18 : Int).toNat = 18 from rfl, big, decide_eq_true h]
    · refine runs_nx (run1_asg rfl (d := .int (c - 10 ^ 18)) ?_ rfl) ?_
      · simp only [ev_slot, ev_con, ev_bin, ev_un, ev_cmp, ev_chain, ev_and, ev_or, ev_not, ev_ite, ev_idx, ev_sl, ev_fld, ev_tup, ev_lst, ev_call, ev_mk, ev_blt, ev_isi, evs_nil, evs_cons, evT_nil, evT_one, evI_lst, evI_r1, evI_r2, evI_down, evI_enum, evI_zip, binG_i, binG_l, cmpG_i, cmpG_n, cmpG_tt, cmpG_ll, len_l, len_t, int_i, int_b, tuple_l, tuple_t, list_l, list_t, binD, cmpD, unD, isiD, kdD, isK, truD, test, kept, keptS, keptI, peek, peekS, frzL, frzAt_nil, frzAt_z, frzAt_n, frzAt_s, frz_int, frz_bl, frz_non, frz_tup, frz_objn, frz_ro, frz_own, frz_fz', List.getElem?_cons_zero, List.getElem?_cons_succ, List.nil_append, List.cons_append, Option.map_some, Option.map_none, Option.bind_some, List.set_cons_zero, List.set_cons_succ, List.set_nil, fz_int, fz_bl, fz_non, fz_tup, fz_lf, fz_lr, fz_lo, fz_on, D.scal, D.isN, Bool.and_true, Bool.true_and, Bool.and_self, Bool.not_true, Bool.not_false, if_true, if_false, Bool.false_eq_true, reduceIte, reduceCtorEq, seqD_l, seqD_t, frzS_ints, fzs_ints, List.length_map, Int.reduceLT, Int.reduceLE, Int.reduceNeg, Int.reduceToNat, Int.reduceAdd, Int.reduceSub, Int.reduceMul, Int.reducePow, decide_true, decide_false, Bool.or_true, Bool.true_or, Bool.or_false, Bool.false_or, Bool.false_and, Bool.and_false, pw, show (18 : Int).toNat = 18 from rfl]
      · simp only [ev_slot, ev_con, ev_bin, ev_un, ev_cmp, ev_chain, ev_and, ev_or, ev_not, ev_ite, ev_idx, ev_sl, ev_fld, ev_tup, ev_lst, ev_call, ev_mk, ev_blt, ev_isi, evs_nil, evs_cons, evT_nil, evT_one, evI_lst, evI_r1, evI_r2, evI_down, evI_enum, evI_zip, binG_i, binG_l, cmpG_i, cmpG_n, cmpG_tt, cmpG_ll, len_l, len_t, int_i, int_b, tuple_l, tuple_t, list_l, list_t, binD, cmpD, unD, isiD, kdD, isK, truD, test, kept, keptS, keptI, peek, peekS, frzL, frzAt_nil, frzAt_z, frzAt_n, frzAt_s, frz_int, frz_bl, frz_non, frz_tup, frz_objn, frz_ro, frz_own, frz_fz', List.getElem?_cons_zero, List.getElem?_cons_succ, List.nil_append, List.cons_append, Option.map_some, Option.map_none, Option.bind_some, List.set_cons_zero, List.set_cons_succ, List.set_nil, fz_int, fz_bl, fz_non, fz_tup, fz_lf, fz_lr, fz_lo, fz_on, D.scal, D.isN, Bool.and_true, Bool.true_and, Bool.and_self, Bool.not_true, Bool.not_false, if_true, if_false, Bool.false_eq_true, reduceIte, reduceCtorEq, seqD_l, seqD_t, frzS_ints, fzs_ints, List.length_map, Int.reduceLT, Int.reduceLE, Int.reduceNeg, Int.reduceToNat, Int.reduceAdd, Int.reduceSub, Int.reduceMul, Int.reducePow, decide_true, decide_false, Bool.or_true, Bool.true_or, Bool.or_false, Bool.false_or, Bool.false_and, Bool.and_false]
        refine runs_nx (run1_for rfl (items := ss.map D.int) ?_ (by simp only [ev_slot, ev_con, ev_bin, ev_un, ev_cmp, ev_chain, ev_and, ev_or, ev_not, ev_ite, ev_idx, ev_sl, ev_fld, ev_tup, ev_lst, ev_call, ev_mk, ev_blt, ev_isi, evs_nil, evs_cons, evT_nil, evT_one, evI_lst, evI_r1, evI_r2, evI_down, evI_enum, evI_zip, binG_i, binG_l, cmpG_i, cmpG_n, cmpG_tt, cmpG_ll, len_l, len_t, int_i, int_b, tuple_l, tuple_t, list_l, list_t, binD, cmpD, unD, isiD, kdD, isK, truD, test, kept, keptS, keptI, peek, peekS, frzL, frzAt_nil, frzAt_z, frzAt_n, frzAt_s, frz_int, frz_bl, frz_non, frz_tup, frz_objn, frz_ro, frz_own, frz_fz', List.getElem?_cons_zero, List.getElem?_cons_succ, List.nil_append, List.cons_append, Option.map_some, Option.map_none, Option.bind_some, List.set_cons_zero, List.set_cons_succ, List.set_nil, fz_int, fz_bl, fz_non, fz_tup, fz_lf, fz_lr, fz_lo, fz_on, D.scal, D.isN, Bool.and_true, Bool.true_and, Bool.and_self, Bool.not_true, Bool.not_false, if_true, if_false, Bool.false_eq_true, reduceIte, reduceCtorEq, seqD_l, seqD_t, frzS_ints, fzs_ints, List.length_map, Int.reduceLT, Int.reduceLE, Int.reduceNeg, Int.reduceToNat, Int.reduceAdd, Int.reduceSub, Int.reduceMul, Int.reducePow, decide_true, decide_false, Bool.or_true, Bool.true_or, Bool.or_false, Bool.false_or, Bool.false_and, Bool.and_false]; exact h1)) (runs_rt (run1_ret rfl ?_))
        · simp only [ev_slot, ev_con, ev_bin, ev_un, ev_cmp, ev_chain, ev_and, ev_or, ev_not, ev_ite, ev_idx, ev_sl, ev_fld, ev_tup, ev_lst, ev_call, ev_mk, ev_blt, ev_isi, evs_nil, evs_cons, evT_nil, evT_one, evI_lst, evI_r1, evI_r2, evI_down, evI_enum, evI_zip, binG_i, binG_l, cmpG_i, cmpG_n, cmpG_tt, cmpG_ll, len_l, len_t, int_i, int_b, tuple_l, tuple_t, list_l, list_t, binD, cmpD, unD, isiD, kdD, isK, truD, test, kept, keptS, keptI, peek, peekS, frzL, frzAt_nil, frzAt_z, frzAt_n, frzAt_s, frz_int, frz_bl, frz_non, frz_tup, frz_objn, frz_ro, frz_own, frz_fz', List.getElem?_cons_zero, List.getElem?_cons_succ, List.nil_append, List.cons_append, Option.map_some, Option.map_none, Option.bind_some, List.set_cons_zero, List.set_cons_succ, List.set_nil, fz_int, fz_bl, fz_non, fz_tup, fz_lf, fz_lr, fz_lo, fz_on, D.scal, D.isN, Bool.and_true, Bool.true_and, Bool.and_self, Bool.not_true, Bool.not_false, if_true, if_false, Bool.false_eq_true, reduceIte, reduceCtorEq, seqD_l, seqD_t, frzS_ints, fzs_ints, List.length_map, Int.reduceLT, Int.reduceLE, Int.reduceNeg, Int.reduceToNat, Int.reduceAdd, Int.reduceSub, Int.reduceMul, Int.reducePow, decide_true, decide_false, Bool.or_true, Bool.true_or, Bool.or_false, Bool.false_or, Bool.false_and, Bool.and_false]
        · simp only [ev_slot, ev_con, ev_bin, ev_un, ev_cmp, ev_chain, ev_and, ev_or, ev_not, ev_ite, ev_idx, ev_sl, ev_fld, ev_tup, ev_lst, ev_call, ev_mk, ev_blt, ev_isi, evs_nil, evs_cons, evT_nil, evT_one, evI_lst, evI_r1, evI_r2, evI_down, evI_enum, evI_zip, binG_i, binG_l, cmpG_i, cmpG_n, cmpG_tt, cmpG_ll, len_l, len_t, int_i, int_b, tuple_l, tuple_t, list_l, list_t, binD, cmpD, unD, isiD, kdD, isK, truD, test, kept, keptS, keptI, peek, peekS, frzL, frzAt_nil, frzAt_z, frzAt_n, frzAt_s, frz_int, frz_bl, frz_non, frz_tup, frz_objn, frz_ro, frz_own, frz_fz', List.getElem?_cons_zero, List.getElem?_cons_succ, List.nil_append, List.cons_append, Option.map_some, Option.map_none, Option.bind_some, List.set_cons_zero, List.set_cons_succ, List.set_nil, fz_int, fz_bl, fz_non, fz_tup, fz_lf, fz_lr, fz_lo, fz_on, D.scal, D.isN, Bool.and_true, Bool.true_and, Bool.and_self, Bool.not_true, Bool.not_false, if_true, if_false, Bool.false_eq_true, reduceIte, reduceCtorEq, seqD_l, seqD_t, frzS_ints, fzs_ints, List.length_map, Int.reduceLT, Int.reduceLE, Int.reduceNeg, Int.reduceToNat, Int.reduceAdd, Int.reduceSub, Int.reduceMul, Int.reducePow, decide_true, decide_false, Bool.or_true, Bool.true_or, Bool.or_false, Bool.false_or, Bool.false_and, Bool.and_false]
  · generalize hb : (Ss.cons (.asg (.name 4) (.bin .Mod (.blt .int (.cons (.bin .Add (.bin .Add (.bin .Mult (.slot 4) (.con (.int 48271))) (.bin .Mult (.con (.int 974711)) (.slot 5))) (.con (.int 12345))) (.nil))) (.con (.int 2147483647)))) (.cons (.asg (.name 7) (.bin .Mod (.blt .int (.cons (.bin .Mult (.slot 4) (.bin .Add (.bin .FloorDiv (.slot 4) (.con (.int 65537))) (.con (.int 3)))) (.nil))) (.con (.int 2147483629)))) (.cons (.app 2 (.bin .Mod (.bin .FloorDiv (.slot 7) (.con (.int 19))) (.idx (.slot 1) (.slot 5)))) (.nil)))) = body
    obtain ⟨ρ', h1, row, seed, v, v2, rfl, hd⟩ := for_inv (bd := bindT (.name 5)) (body := runs G body) (items := rngD 0 ss.length) (ρ := [some (.int c), some (.lst .fz (ss.map D.int)), some (.lst .own ([].map D.int)), some (.int c), some (.int (c % 2147483629)), none, none, none])
      (fun i ρ => ∃ row seed v v2, ρ = [some (.int c), some (.lst .fz (ss.map D.int)), some (.lst .own (row.map D.int)), some (.int c), some (.int seed), v, none, v2] ∧ Digs ss row i) ⟨[], _, none, none, rfl, rfl, by simp⟩ (by
        rintro i d ρ hi ⟨row, seed, v, v2, rfl, hd⟩
        have il : i < ss.length := by have := (List.getElem?_eq_some_iff.mp hi).1; rw [rngD_len] at this; exact this
        rw [rngD_get _ _ _ il] at hi
        cases hi
        have hs : ss[i]? = some ss[i] := List.getElem?_eq_getElem il
        obtain ⟨z, s0⟩ := hsz hs
        have hr : (row.map D.int).length < most := by rw [List.length_map, hd.len]; omega
        generalize hsd : (seed * 48271 + 974711 * (0 + (i : Int)) + 12345) % 2147483647 = sd
        have b0 : 0 ≤ sd := by omega
        have b1 : sd < 2147483647 := by omega
        generalize htw : sd * (sd / 65537 + 3) % 2147483629 = tw
        have m1 : mulOk seed 48271 = true := by unfold mulOk; simp
        have m2 : mulOk 974711 (0 + (i : Int)) = true := by unfold mulOk; simp
        have m3 : mulOk sd (sd / 65537 + 3) = true := by unfold mulOk; simp; omega
        subst hb
        refine ⟨_, _, rfl, .inl (runs_nx (run1_asg rfl (d := .int sd) ?_ rfl) (runs_nx (run1_asg rfl (d := .int tw) ?_ rfl) (runs_nx (run1_app rfl (d := .int (tw / 19 % ss[i])) (ds := row.map D.int) ?_ rfl hr) runs_nil))), row ++ [tw / 19 % ss[i]], sd, some (.int (0 + i)), some (.int tw), ?_, hd.snoc hs (Int.emod_nonneg _ (by omega)) (Int.emod_lt_of_pos _ s0)⟩
        · simp only [ev_slot, ev_con, ev_bin, ev_un, ev_cmp, ev_chain, ev_and, ev_or, ev_not, ev_ite, ev_idx, ev_sl, ev_fld, ev_tup, ev_lst, ev_call, ev_mk, ev_blt, ev_isi, evs_nil, evs_cons, evT_nil, evT_one, evI_lst, evI_r1, evI_r2, evI_down, evI_enum, evI_zip, binG_i, binG_l, cmpG_i, cmpG_n, cmpG_tt, cmpG_ll, len_l, len_t, int_i, int_b, tuple_l, tuple_t, list_l, list_t, binD, cmpD, unD, isiD, kdD, isK, truD, test, kept, keptS, keptI, peek, peekS, frzL, frzAt_nil, frzAt_z, frzAt_n, frzAt_s, frz_int, frz_bl, frz_non, frz_tup, frz_objn, frz_ro, frz_own, frz_fz', List.getElem?_cons_zero, List.getElem?_cons_succ, List.nil_append, List.cons_append, Option.map_some, Option.map_none, Option.bind_some, List.set_cons_zero, List.set_cons_succ, List.set_nil, fz_int, fz_bl, fz_non, fz_tup, fz_lf, fz_lr, fz_lo, fz_on, D.scal, D.isN, Bool.and_true, Bool.true_and, Bool.and_self, Bool.not_true, Bool.not_false, if_true, if_false, Bool.false_eq_true, reduceIte, reduceCtorEq, seqD_l, seqD_t, frzS_ints, fzs_ints, List.length_map, Int.reduceLT, Int.reduceLE, Int.reduceNeg, Int.reduceToNat, Int.reduceAdd, Int.reduceSub, Int.reduceMul, Int.reducePow, decide_true, decide_false, Bool.or_true, Bool.true_or, Bool.or_false, Bool.false_or, Bool.false_and, Bool.and_false, m1, m2, hsd]
        · simp only [ev_slot, ev_con, ev_bin, ev_un, ev_cmp, ev_chain, ev_and, ev_or, ev_not, ev_ite, ev_idx, ev_sl, ev_fld, ev_tup, ev_lst, ev_call, ev_mk, ev_blt, ev_isi, evs_nil, evs_cons, evT_nil, evT_one, evI_lst, evI_r1, evI_r2, evI_down, evI_enum, evI_zip, binG_i, binG_l, cmpG_i, cmpG_n, cmpG_tt, cmpG_ll, len_l, len_t, int_i, int_b, tuple_l, tuple_t, list_l, list_t, binD, cmpD, unD, isiD, kdD, isK, truD, test, kept, keptS, keptI, peek, peekS, frzL, frzAt_nil, frzAt_z, frzAt_n, frzAt_s, frz_int, frz_bl, frz_non, frz_tup, frz_objn, frz_ro, frz_own, frz_fz', List.getElem?_cons_zero, List.getElem?_cons_succ, List.nil_append, List.cons_append, Option.map_some, Option.map_none, Option.bind_some, List.set_cons_zero, List.set_cons_succ, List.set_nil, fz_int, fz_bl, fz_non, fz_tup, fz_lf, fz_lr, fz_lo, fz_on, D.scal, D.isN, Bool.and_true, Bool.true_and, Bool.and_self, Bool.not_true, Bool.not_false, if_true, if_false, Bool.false_eq_true, reduceIte, reduceCtorEq, seqD_l, seqD_t, frzS_ints, fzs_ints, List.length_map, Int.reduceLT, Int.reduceLE, Int.reduceNeg, Int.reduceToNat, Int.reduceAdd, Int.reduceSub, Int.reduceMul, Int.reducePow, decide_true, decide_false, Bool.or_true, Bool.true_or, Bool.or_false, Bool.false_or, Bool.false_and, Bool.and_false, m3, htw]
        · have e0 : (0 : Int) + (i : Int) = (i : Int) := by omega
          simp only [ev_slot, ev_con, ev_bin, ev_un, ev_cmp, ev_chain, ev_and, ev_or, ev_not, ev_ite, ev_idx, ev_sl, ev_fld, ev_tup, ev_lst, ev_call, ev_mk, ev_blt, ev_isi, evs_nil, evs_cons, evT_nil, evT_one, evI_lst, evI_r1, evI_r2, evI_down, evI_enum, evI_zip, binG_i, binG_l, cmpG_i, cmpG_n, cmpG_tt, cmpG_ll, len_l, len_t, int_i, int_b, tuple_l, tuple_t, list_l, list_t, binD, cmpD, unD, isiD, kdD, isK, truD, test, kept, keptS, keptI, peek, peekS, frzL, frzAt_nil, frzAt_z, frzAt_n, frzAt_s, frz_int, frz_bl, frz_non, frz_tup, frz_objn, frz_ro, frz_own, frz_fz', List.getElem?_cons_zero, List.getElem?_cons_succ, List.nil_append, List.cons_append, Option.map_some, Option.map_none, Option.bind_some, List.set_cons_zero, List.set_cons_succ, List.set_nil, fz_int, fz_bl, fz_non, fz_tup, fz_lf, fz_lr, fz_lo, fz_on, D.scal, D.isN, Bool.and_true, Bool.true_and, Bool.and_self, Bool.not_true, Bool.not_false, if_true, if_false, Bool.false_eq_true, reduceIte, reduceCtorEq, seqD_l, seqD_t, frzS_ints, fzs_ints, List.length_map, Int.reduceLT, Int.reduceLE, Int.reduceNeg, Int.reduceToNat, Int.reduceAdd, Int.reduceSub, Int.reduceMul, Int.reducePow, decide_true, decide_false, Bool.or_true, Bool.true_or, Bool.or_false, Bool.false_or, Bool.false_and, Bool.and_false, e0, at_ints hs, decide_eq_true s0]
        · simp only [ev_slot, ev_con, ev_bin, ev_un, ev_cmp, ev_chain, ev_and, ev_or, ev_not, ev_ite, ev_idx, ev_sl, ev_fld, ev_tup, ev_lst, ev_call, ev_mk, ev_blt, ev_isi, evs_nil, evs_cons, evT_nil, evT_one, evI_lst, evI_r1, evI_r2, evI_down, evI_enum, evI_zip, binG_i, binG_l, cmpG_i, cmpG_n, cmpG_tt, cmpG_ll, len_l, len_t, int_i, int_b, tuple_l, tuple_t, list_l, list_t, binD, cmpD, unD, isiD, kdD, isK, truD, test, kept, keptS, keptI, peek, peekS, frzL, frzAt_nil, frzAt_z, frzAt_n, frzAt_s, frz_int, frz_bl, frz_non, frz_tup, frz_objn, frz_ro, frz_own, frz_fz', List.getElem?_cons_zero, List.getElem?_cons_succ, List.nil_append, List.cons_append, Option.map_some, Option.map_none, Option.bind_some, List.set_cons_zero, List.set_cons_succ, List.set_nil, fz_int, fz_bl, fz_non, fz_tup, fz_lf, fz_lr, fz_lo, fz_on, D.scal, D.isN, Bool.and_true, Bool.true_and, Bool.and_self, Bool.not_true, Bool.not_false, if_true, if_false, Bool.false_eq_true, reduceIte, reduceCtorEq, seqD_l, seqD_t, frzS_ints, fzs_ints, List.length_map, Int.reduceLT, Int.reduceLE, Int.reduceNeg, Int.reduceToNat, Int.reduceAdd, Int.reduceSub, Int.reduceMul, Int.reducePow, decide_true, decide_false, Bool.or_true, Bool.true_or, Bool.or_false, Bool.false_or, Bool.false_and, Bool.and_false, map_snoc])
    refine ⟨row, runD_rt rfl ?_, by rw [rngD_len] at hd; exact hd⟩
    show runs G _ [some (.int c), some (.lst .fz (ss.map D.int)), none, none, none, none, none, none] = _
    refine runs_nx (run1_asg rfl (d := .lst .own []) ?_ rfl) (runs_nx (run1_asg rfl (d := .int c) ?_ rfl) (runs_if false rfl ?_ runs_nil ?_))
    · simp only [ev_slot, ev_con, ev_bin, ev_un, ev_cmp, ev_chain, ev_and, ev_or, ev_not, ev_ite, ev_idx, ev_sl, ev_fld, ev_tup, ev_lst, ev_call, ev_mk, ev_blt, ev_isi, evs_nil, evs_cons, evT_nil, evT_one, evI_lst, evI_r1, evI_r2, evI_down, evI_enum, evI_zip, binG_i, binG_l, cmpG_i, cmpG_n, cmpG_tt, cmpG_ll, len_l, len_t, int_i, int_b, tuple_l, tuple_t, list_l, list_t, binD, cmpD, unD, isiD, kdD, isK, truD, test, kept, keptS, keptI, peek, peekS, frzL, frzAt_nil, frzAt_z, frzAt_n, frzAt_s, frz_int, frz_bl, frz_non, frz_tup, frz_objn, frz_ro, frz_own, frz_fz', List.getElem?_cons_zero, List.getElem?_cons_succ, List.nil_append, List.cons_append, Option.map_some, Option.map_none, Option.bind_some, List.set_cons_zero, List.set_cons_succ, List.set_nil, fz_int, fz_bl, fz_non, fz_tup, fz_lf, fz_lr, fz_lo, fz_on, D.scal, D.isN, Bool.and_true, Bool.true_and, Bool.and_self, Bool.not_true, Bool.not_false, if_true, if_false, Bool.false_eq_true, reduceIte, reduceCtorEq, seqD_l, seqD_t, frzS_ints, fzs_ints, List.length_map, Int.reduceLT, Int.reduceLE, Int.reduceNeg, Int.reduceToNat, Int.reduceAdd, Int.reduceSub, Int.reduceMul, Int.reducePow, decide_true, decide_false, Bool.or_true, Bool.true_or, Bool.or_false, Bool.false_or, Bool.false_and, Bool.and_false]; rfl
    · simp only [ev_slot, ev_con, ev_bin, ev_un, ev_cmp, ev_chain, ev_and, ev_or, ev_not, ev_ite, ev_idx, ev_sl, ev_fld, ev_tup, ev_lst, ev_call, ev_mk, ev_blt, ev_isi, evs_nil, evs_cons, evT_nil, evT_one, evI_lst, evI_r1, evI_r2, evI_down, evI_enum, evI_zip, binG_i, binG_l, cmpG_i, cmpG_n, cmpG_tt, cmpG_ll, len_l, len_t, int_i, int_b, tuple_l, tuple_t, list_l, list_t, binD, cmpD, unD, isiD, kdD, isK, truD, test, kept, keptS, keptI, peek, peekS, frzL, frzAt_nil, frzAt_z, frzAt_n, frzAt_s, frz_int, frz_bl, frz_non, frz_tup, frz_objn, frz_ro, frz_own, frz_fz', List.getElem?_cons_zero, List.getElem?_cons_succ, List.nil_append, List.cons_append, Option.map_some, Option.map_none, Option.bind_some, List.set_cons_zero, List.set_cons_succ, List.set_nil, fz_int, fz_bl, fz_non, fz_tup, fz_lf, fz_lr, fz_lo, fz_on, D.scal, D.isN, Bool.and_true, Bool.true_and, Bool.and_self, Bool.not_true, Bool.not_false, if_true, if_false, Bool.false_eq_true, reduceIte, reduceCtorEq, seqD_l, seqD_t, frzS_ints, fzs_ints, List.length_map, Int.reduceLT, Int.reduceLE, Int.reduceNeg, Int.reduceToNat, Int.reduceAdd, Int.reduceSub, Int.reduceMul, Int.reducePow, decide_true, decide_false, Bool.or_true, Bool.true_or, Bool.or_false, Bool.false_or, Bool.false_and, Bool.and_false]
    · rw [big] at h
      simp only [ev_slot, ev_con, ev_bin, ev_un, ev_cmp, ev_chain, ev_and, ev_or, ev_not, ev_ite, ev_idx, ev_sl, ev_fld, ev_tup, ev_lst, ev_call, ev_mk, ev_blt, ev_isi, evs_nil, evs_cons, evT_nil, evT_one, evI_lst, evI_r1, evI_r2, evI_down, evI_enum, evI_zip, binG_i, binG_l, cmpG_i, cmpG_n, cmpG_tt, cmpG_ll, len_l, len_t, int_i, int_b, tuple_l, tuple_t, list_l, list_t, binD, cmpD, unD, isiD, kdD, isK, truD, test, kept, keptS, keptI, peek, peekS, frzL, frzAt_nil, frzAt_z, frzAt_n, frzAt_s, frz_int, frz_bl, frz_non, frz_tup, frz_objn, frz_ro, frz_own, frz_fz', List.getElem?_cons_zero, List.getElem?_cons_succ, List.nil_append, List.cons_append, Option.map_some, Option.map_none, Option.bind_some, List.set_cons_zero, List.set_cons_succ, List.set_nil, fz_int, fz_bl, fz_non, fz_tup, fz_lf, fz_lr, fz_lo, fz_on, D.scal, D.isN, Bool.and_true, Bool.true_and, Bool.and_self, Bool.not_true, Bool.not_false, if_true, if_false, Bool.false_eq_true, reduceIte, reduceCtorEq, seqD_l, seqD_t, frzS_ints, fzs_ints, List.length_map, Int.reduceLT, Int.reduceLE, Int.reduceNeg, Int.reduceToNat, Int.reduceAdd, Int.reduceSub, Int.reduceMul, Int.reducePow, decide_true, decide_false, Bool.or_true, Bool.true_or, Bool.or_false, Bool.false_or, Bool.false_and, Bool.and_false, pw, show (18 : Int).toNat = 18 from rfl, big, decide_eq_false h]
    · simp only [ev_slot, ev_con, ev_bin, ev_un, ev_cmp, ev_chain, ev_and, ev_or, ev_not, ev_ite, ev_idx, ev_sl, ev_fld, ev_tup, ev_lst, ev_call, ev_mk, ev_blt, ev_isi, evs_nil, evs_cons, evT_nil, evT_one, evI_lst, evI_r1, evI_r2, evI_down, evI_enum, evI_zip, binG_i, binG_l, cmpG_i, cmpG_n, cmpG_tt, cmpG_ll, len_l, len_t, int_i, int_b, tuple_l, tuple_t, list_l, list_t, binD, cmpD, unD, isiD, kdD, isK, truD, test, kept, keptS, keptI, peek, peekS, frzL, frzAt_nil, frzAt_z, frzAt_n, frzAt_s, frz_int, frz_bl, frz_non, frz_tup, frz_objn, frz_ro, frz_own, frz_fz', List.getElem?_cons_zero, List.getElem?_cons_succ, List.nil_append, List.cons_append, Option.map_some, Option.map_none, Option.bind_some, List.set_cons_zero, List.set_cons_succ, List.set_nil, fz_int, fz_bl, fz_non, fz_tup, fz_lf, fz_lr, fz_lo, fz_on, D.scal, D.isN, Bool.and_true, Bool.true_and, Bool.and_self, Bool.not_true, Bool.not_false, if_true, if_false, Bool.false_eq_true, reduceIte, reduceCtorEq, seqD_l, seqD_t, frzS_ints, fzs_ints, List.length_map, Int.reduceLT, Int.reduceLE, Int.reduceNeg, Int.reduceToNat, Int.reduceAdd, Int.reduceSub, Int.reduceMul, Int.reducePow, decide_true, decide_false, Bool.or_true, Bool.true_or, Bool.or_false, Bool.false_or, Bool.false_and, Bool.and_false]
      refine runs_nx (run1_asg rfl (d := .int (c % 2147483629)) ?_ rfl) ?_
      · simp only [ev_slot, ev_con, ev_bin, ev_un, ev_cmp, ev_chain, ev_and, ev_or, ev_not, ev_ite, ev_idx, ev_sl, ev_fld, ev_tup, ev_lst, ev_call, ev_mk, ev_blt, ev_isi, evs_nil, evs_cons, evT_nil, evT_one, evI_lst, evI_r1, evI_r2, evI_down, evI_enum, evI_zip, binG_i, binG_l, cmpG_i, cmpG_n, cmpG_tt, cmpG_ll, len_l, len_t, int_i, int_b, tuple_l, tuple_t, list_l, list_t, binD, cmpD, unD, isiD, kdD, isK, truD, test, kept, keptS, keptI, peek, peekS, frzL, frzAt_nil, frzAt_z, frzAt_n, frzAt_s, frz_int, frz_bl, frz_non, frz_tup, frz_objn, frz_ro, frz_own, frz_fz', List.getElem?_cons_zero, List.getElem?_cons_succ, List.nil_append, List.cons_append, Option.map_some, Option.map_none, Option.bind_some, List.set_cons_zero, List.set_cons_succ, List.set_nil, fz_int, fz_bl, fz_non, fz_tup, fz_lf, fz_lr, fz_lo, fz_on, D.scal, D.isN, Bool.and_true, Bool.true_and, Bool.and_self, Bool.not_true, Bool.not_false, if_true, if_false, Bool.false_eq_true, reduceIte, reduceCtorEq, seqD_l, seqD_t, frzS_ints, fzs_ints, List.length_map, Int.reduceLT, Int.reduceLE, Int.reduceNeg, Int.reduceToNat, Int.reduceAdd, Int.reduceSub, Int.reduceMul, Int.reducePow, decide_true, decide_false, Bool.or_true, Bool.true_or, Bool.or_false, Bool.false_or, Bool.false_and, Bool.and_false]
      · simp only [ev_slot, ev_con, ev_bin, ev_un, ev_cmp, ev_chain, ev_and, ev_or, ev_not, ev_ite, ev_idx, ev_sl, ev_fld, ev_tup, ev_lst, ev_call, ev_mk, ev_blt, ev_isi, evs_nil, evs_cons, evT_nil, evT_one, evI_lst, evI_r1, evI_r2, evI_down, evI_enum, evI_zip, binG_i, binG_l, cmpG_i, cmpG_n, cmpG_tt, cmpG_ll, len_l, len_t, int_i, int_b, tuple_l, tuple_t, list_l, list_t, binD, cmpD, unD, isiD, kdD, isK, truD, test, kept, keptS, keptI, peek, peekS, frzL, frzAt_nil, frzAt_z, frzAt_n, frzAt_s, frz_int, frz_bl, frz_non, frz_tup, frz_objn, frz_ro, frz_own, frz_fz', List.getElem?_cons_zero, List.getElem?_cons_succ, List.nil_append, List.cons_append, Option.map_some, Option.map_none, Option.bind_some, List.set_cons_zero, List.set_cons_succ, List.set_nil, fz_int, fz_bl, fz_non, fz_tup, fz_lf, fz_lr, fz_lo, fz_on, D.scal, D.isN, Bool.and_true, Bool.true_and, Bool.and_self, Bool.not_true, Bool.not_false, if_true, if_false, Bool.false_eq_true, reduceIte, reduceCtorEq, seqD_l, seqD_t, frzS_ints, fzs_ints, List.length_map, Int.reduceLT, Int.reduceLE, Int.reduceNeg, Int.reduceToNat, Int.reduceAdd, Int.reduceSub, Int.reduceMul, Int.reducePow, decide_true, decide_false, Bool.or_true, Bool.true_or, Bool.or_false, Bool.false_or, Bool.false_and, Bool.and_false]
        have rk : rngOk 0 (ss.length : Int) = true := by unfold rngOk; simp; omega
        refine runs_nx (run1_for rfl (items := rngD 0 ss.length) ?_ (by simp only [ev_slot, ev_con, ev_bin, ev_un, ev_cmp, ev_chain, ev_and, ev_or, ev_not, ev_ite, ev_idx, ev_sl, ev_fld, ev_tup, ev_lst, ev_call, ev_mk, ev_blt, ev_isi, evs_nil, evs_cons, evT_nil, evT_one, evI_lst, evI_r1, evI_r2, evI_down, evI_enum, evI_zip, binG_i, binG_l, cmpG_i, cmpG_n, cmpG_tt, cmpG_ll, len_l, len_t, int_i, int_b, tuple_l, tuple_t, list_l, list_t, binD, cmpD, unD, isiD, kdD, isK, truD, test, kept, keptS, keptI, peek, peekS, frzL, frzAt_nil, frzAt_z, frzAt_n, frzAt_s, frz_int, frz_bl, frz_non, frz_tup, frz_objn, frz_ro, frz_own, frz_fz', List.getElem?_cons_zero, List.getElem?_cons_succ, List.nil_append, List.cons_append, Option.map_some, Option.map_none, Option.bind_some, List.set_cons_zero, List.set_cons_succ, List.set_nil, fz_int, fz_bl, fz_non, fz_tup, fz_lf, fz_lr, fz_lo, fz_on, D.scal, D.isN, Bool.and_true, Bool.true_and, Bool.and_self, Bool.not_true, Bool.not_false, if_true, if_false, Bool.false_eq_true, reduceIte, reduceCtorEq, seqD_l, seqD_t, frzS_ints, fzs_ints, List.length_map, Int.reduceLT, Int.reduceLE, Int.reduceNeg, Int.reduceToNat, Int.reduceAdd, Int.reduceSub, Int.reduceMul, Int.reducePow, decide_true, decide_false, Bool.or_true, Bool.true_or, Bool.or_false, Bool.false_or, Bool.false_and, Bool.and_false]; exact h1)) (runs_rt (run1_ret rfl ?_))
        · simp only [ev_slot, ev_con, ev_bin, ev_un, ev_cmp, ev_chain, ev_and, ev_or, ev_not, ev_ite, ev_idx, ev_sl, ev_fld, ev_tup, ev_lst, ev_call, ev_mk, ev_blt, ev_isi, evs_nil, evs_cons, evT_nil, evT_one, evI_lst, evI_r1, evI_r2, evI_down, evI_enum, evI_zip, binG_i, binG_l, cmpG_i, cmpG_n, cmpG_tt, cmpG_ll, len_l, len_t, int_i, int_b, tuple_l, tuple_t, list_l, list_t, binD, cmpD, unD, isiD, kdD, isK, truD, test, kept, keptS, keptI, peek, peekS, frzL, frzAt_nil, frzAt_z, frzAt_n, frzAt_s, frz_int, frz_bl, frz_non, frz_tup, frz_objn, frz_ro, frz_own, frz_fz', List.getElem?_cons_zero, List.getElem?_cons_succ, List.nil_append, List.cons_append, Option.map_some, Option.map_none, Option.bind_some, List.set_cons_zero, List.set_cons_succ, List.set_nil, fz_int, fz_bl, fz_non, fz_tup, fz_lf, fz_lr, fz_lo, fz_on, D.scal, D.isN, Bool.and_true, Bool.true_and, Bool.and_self, Bool.not_true, Bool.not_false, if_true, if_false, Bool.false_eq_true, reduceIte, reduceCtorEq, seqD_l, seqD_t, frzS_ints, fzs_ints, List.length_map, Int.reduceLT, Int.reduceLE, Int.reduceNeg, Int.reduceToNat, Int.reduceAdd, Int.reduceSub, Int.reduceMul, Int.reducePow, decide_true, decide_false, Bool.or_true, Bool.true_or, Bool.or_false, Bool.false_or, Bool.false_and, Bool.and_false, rk, Int.toNat_natCast]
        · simp only [ev_slot, ev_con, ev_bin, ev_un, ev_cmp, ev_chain, ev_and, ev_or, ev_not, ev_ite, ev_idx, ev_sl, ev_fld, ev_tup, ev_lst, ev_call, ev_mk, ev_blt, ev_isi, evs_nil, evs_cons, evT_nil, evT_one, evI_lst, evI_r1, evI_r2, evI_down, evI_enum, evI_zip, binG_i, binG_l, cmpG_i, cmpG_n, cmpG_tt, cmpG_ll, len_l, len_t, int_i, int_b, tuple_l, tuple_t, list_l, list_t, binD, cmpD, unD, isiD, kdD, isK, truD, test, kept, keptS, keptI, peek, peekS, frzL, frzAt_nil, frzAt_z, frzAt_n, frzAt_s, frz_int, frz_bl, frz_non, frz_tup, frz_objn, frz_ro, frz_own, frz_fz', List.getElem?_cons_zero, List.getElem?_cons_succ, List.nil_append, List.cons_append, Option.map_some, Option.map_none, Option.bind_some, List.set_cons_zero, List.set_cons_succ, List.set_nil, fz_int, fz_bl, fz_non, fz_tup, fz_lf, fz_lr, fz_lo, fz_on, D.scal, D.isN, Bool.and_true, Bool.true_and, Bool.and_self, Bool.not_true, Bool.not_false, if_true, if_false, Bool.false_eq_true, reduceIte, reduceCtorEq, seqD_l, seqD_t, frzS_ints, fzs_ints, List.length_map, Int.reduceLT, Int.reduceLE, Int.reduceNeg, Int.reduceToNat, Int.reduceAdd, Int.reduceSub, Int.reduceMul, Int.reducePow, decide_true, decide_false, Bool.or_true, Bool.true_or, Bool.or_false, Bool.false_or, Bool.false_and, Bool.and_false]
end
end Z

/-! Z20: sorted(set(pairs)), xs[i].append(e). -/
namespace Z
open PySem PySem.Spec PyProof.Rows L2
open Evl (Ex ex_l ex_t ex_rd)

/-! ### pairs in order -/
def Plt (p q : Int × Int) : Prop := p.1 < q.1 ∨ (p.1 = q.1 ∧ p.2 < q.2)
theorem plt_iff {p q : Int × Int} : plt p q = true ↔ Plt p q := by
  unfold plt Plt
  simp
theorem mem_insP {p x : Int × Int} : ∀ {l : List (Int × Int)}, x ∈ insP p l ↔ x = p ∨ x ∈ l
  | [] => by simp [insP]
  | q :: r => by
    unfold insP
    split
    · simp
    · split
      · rename_i h; subst h; simp
      · rw [List.mem_cons, mem_insP, List.mem_cons]
        constructor
        · rintro (h | h | h) <;> simp [h]
        · rintro (h | h | h) <;> simp [h]
theorem mem_srtP {x : Int × Int} : ∀ {l : List (Int × Int)}, x ∈ srtP l ↔ x ∈ l
  | [] => by simp [srtP]
  | q :: r => by
    unfold srtP
    rw [mem_insP, mem_srtP, List.mem_cons]
theorem Plt.trans {p q r : Int × Int} (h : Plt p q) (k : Plt q r) : Plt p r := by
  unfold Plt at *
  omega
theorem Plt.tri {p q : Int × Int} (h : ¬ Plt p q) (n : p ≠ q) : Plt q p := by
  obtain ⟨a, b⟩ := p
  obtain ⟨c, d⟩ := q
  unfold Plt at *
  have n' : ¬ (a = c ∧ b = d) := fun ⟨x, y⟩ => n (by rw [x, y])
  dsimp only at *
  omega
theorem Plt.irr {p : Int × Int} (h : Plt p p) : False := by
  unfold Plt at h
  omega
theorem insP_sorted {p : Int × Int} : ∀ {l : List (Int × Int)}, l.Pairwise Plt → (insP p l).Pairwise Plt
  | [], _ => List.pairwise_singleton _ _
  | q :: r, h => by
    obtain ⟨h1, h2⟩ := List.pairwise_cons.mp h
    unfold insP
    split
    · rename_i c
      have c' := plt_iff.mp c
      refine List.pairwise_cons.mpr ⟨fun x hx => ?_, h⟩
      rcases List.mem_cons.mp hx with rfl | hx
      · exact c'
      · exact c'.trans (h1 x hx)
    · rename_i c
      split
      · exact h
      · rename_i n
        refine List.pairwise_cons.mpr ⟨fun x hx => ?_, insP_sorted h2⟩
        rcases mem_insP.mp hx with rfl | hx
        · exact Plt.tri (fun z => c (plt_iff.mpr z)) n
        · exact h1 x hx
theorem srtP_sorted : ∀ l : List (Int × Int), (srtP l).Pairwise Plt
  | [] => .nil
  | p :: r => insP_sorted (srtP_sorted r)
theorem same_pairs : ∀ {a b : List (Int × Int)}, a.Pairwise Plt → b.Pairwise Plt → (∀ x, x ∈ a ↔ x ∈ b) → a = b
  | [], [], _, _, _ => rfl
  | [], y :: b, _, _, h => by have := (h y).mpr List.mem_cons_self; cases this
  | x :: a, [], _, _, h => by have := (h x).mp List.mem_cons_self; cases this
  | x :: a, y :: b, ha, hb, h => by
    obtain ⟨a1, a2⟩ := List.pairwise_cons.mp ha
    obtain ⟨b1, b2⟩ := List.pairwise_cons.mp hb
    have e : x = y := by
      rcases List.mem_cons.mp ((h x).mp List.mem_cons_self) with e | m
      · exact e
      · rcases List.mem_cons.mp ((h y).mpr List.mem_cons_self) with e | m2
        · exact e.symm
        · exact absurd ((a1 y m2).trans (b1 x m)) Plt.irr
    subst e
    rw [same_pairs a2 b2 fun z => ⟨fun m => ?_, fun m => ?_⟩]
    · rcases List.mem_cons.mp ((h z).mp (List.mem_cons_of_mem _ m)) with e | m2
      · subst e; exact absurd (a1 z m) Plt.irr
      · exact m2
    · rcases List.mem_cons.mp ((h z).mpr (List.mem_cons_of_mem _ m)) with e | m2
      · subst e; exact absurd (b1 z m) Plt.irr
      · exact m2
theorem pairsOf_some : ∀ {ds : List D} {ps : List (Int × Int)}, pairsOf ds = some ps → ds = ps.map dP
  | [], _, h => by cases h; rfl
  | d :: r, ps, h => by
    unfold pairsOf at h
    split at h
    · rename_i e; cases e
    · rename_i a b r' e
      cases e
      cases hr : pairsOf r with
      | none => rw [hr] at h; cases h
      | some qs =>
        rw [hr] at h
        cases h
        rw [pairsOf_some hr]
        rfl
    · cases h
theorem pairsOf_map : ∀ ps : List (Int × Int), pairsOf (ps.map dP) = some ps
  | [] => rfl
  | (a, b) :: r => by
    show (pairsOf (r.map dP)).map ((a, b) :: ·) = _
    rw [pairsOf_map r]
    rfl
section
variable {T : Tab} {Hf H : Hp}
def two2l (p : Int × Int) : List Int := [p.1, p.2]
theorem repS_pairs : ∀ {ps : List (Int × Int)} {xs : List V} {F : List Addr}, repS T Hf H (ps.map dP) xs F → ∃ ks : List (Addr × List Int), xs = ks.map (fun p => V.ref p.1) ∧ ks.map (·.2) = ps.map two2l ∧ ∀ q ∈ ks, SqT T.K Hf q.1 (q.2.map V.int)
  | [], _, _, h => ⟨[], h.1, rfl, fun _ h => by cases h⟩
  | p :: ps, _, _, ⟨v, vs, F1, F2, e, f, r, q⟩ => by
    obtain ⟨ks, h1, h2, h3⟩ := repS_pairs q
    obtain ⟨a, xs, e1, e2, e3, e4⟩ := r
    have e5 := repS_ints (is := [p.1, p.2]) e4
    subst e5
    refine ⟨(a, [p.1, p.2]) :: ks, by rw [e, e1, h1]; rfl, by rw [List.map_cons, h2]; rfl, fun z hz => ?_⟩
    rcases List.mem_cons.mp hz with rfl | hz
    · exact e3
    · exact h3 z hz
theorem pairs_repS : ∀ {ps : List (Int × Int)} {ks : List (Addr × List Int)}, ks.map (·.2) = ps.map two2l → (∀ q ∈ ks, SqT T.K Hf q.1 (q.2.map V.int)) → repS T Hf H (ps.map dP) (ks.map fun p => V.ref p.1) []
  | [], [], _, _ => ⟨rfl, rfl⟩
  | [], _ :: _, h, _ => by cases h
  | _ :: _, [], h, _ => by cases h
  | p :: ps, (a, l) :: ks, h, k => by
    rw [List.map_cons, List.map_cons] at h
    injection h with h1 h2
    dsimp only at h1
    subst h1
    exact ⟨.ref a, _, [], [], rfl, rfl, ⟨a, _, rfl, rfl, k (a, two2l p) List.mem_cons_self, ints_repS [p.1, p.2]⟩, pairs_repS h2 fun q hq => k q (List.mem_cons_of_mem _ hq)⟩
theorem ex_bound : ∀ ps : List (Int × Int), ∃ B : Int, ∀ p ∈ ps, p.1 < B ∧ p.2 < B
  | [] => ⟨0, fun _ h => by cases h⟩
  | p :: ps => by
    obtain ⟨B, h⟩ := ex_bound ps
    refine ⟨max B (max (p.1 + 1) (p.2 + 1)), fun q hq => ?_⟩
    rcases List.mem_cons.mp hq with rfl | hq
    · omega
    · have := h q hq
      omega
end
section
variable {L : Law} {N : List Str} {sc : Sc} {k : Nat}
theorem sem_setsort {e : Expr} {e' : E} {p0 p1 q pos : Pos} (h1 : (gdB sc "sorted" && gdB sc "set") = true) (m1 : L.mg "sorted" = none) (m2 : L.mg "set" = none)
    (s1 : ∀ env, starEach [.Call (.Name "set" p1) [e] [] q] env = (false, eval (.Call (.Name "set" p1) [e] [] q) env) :: starEach [] env) (s2 : ∀ env, starEach [e] env = (false, eval e env) :: starEach [] env)
    (he : SemE L N sc k e e') (hh : sc.hot = false := by rfl) : SemE L N sc k (.Call (.Name "sorted" p0) [.Call (.Name "set" p1) [e] [] q] [] pos) (.blt .setsort (.cons e' .nil)) := by
  rw [Bool.and_eq_true] at h1
  obtain ⟨a1, d1, n1⟩ := gdB_ h1.1
  obtain ⟨a2, d2, n2⟩ := gdB_ h1.2
  intro X c ρ d fr h Hf0 H0 Hf H σ S Q p
  simp only [ev, evs] at h
  split at h
  · rename_i ds0 f0 e0
    split at e0
    · rename_i x f ds1 g1 e1 e2
      cases e2
      cases e0
      cases hd : bltG L.G .setsort [x] with
      | none => rw [hd] at h; cases h
      | some d' =>
        rw [hd] at h
        cases h
        have hd2 : setsortD x = some d := by rw [bltG_ne (by decide)] at hd; exact hd
        unfold setsortD at hd2
        split at hd2
        · rename_i m ds
          cases hp : pairsOf ds with
          | none => rw [hp] at hd2; cases hd2
          | some ps =>
            rw [hp] at hd2
            have hd3 : (if decide (ps.length < 64) && ps.all (fun p => decide (0 ≤ p.1) && decide (0 ≤ p.2)) then some (D.lst .own ((srtP ps).map dP)) else none) = some d := hd2
            split at hd3
            · rename_i hc
              cases hd3
              simp only [Bool.and_eq_true, decide_eq_true_eq, List.all_eq_true] at hc
              obtain ⟨c1, c2⟩ := hc
              have hds := pairsOf_some hp
              subst hds
              refine by_pe (pe_callB (cr_sortedT (c.calm hh)) (show X.env.scope.names.lookup ("sorted" : Str) = some NameKind.globalImplicit by rw [c.hsc]; exact a1) (by rw [c.hmg]; exact m1) (by decide +kernel)
                (pa_cons (pe_callTy (cr_setOfT (c.calm hh) c.units) (show X.env.scope.names.lookup ("set" : Str) = some NameKind.globalImplicit by rw [c.hsc]; exact a2) (by rw [c.hmg]; exact m2) (by decide +kernel) (pa_cons (pe_ e) pa_nil (s2 _)) n2 d2 (s2 _) rfl) pa_nil (s1 _)) n1 d1 (s1 _) rfl) ?_
              refine he X c ρ _ f e1 Hf0 H0 Hf H σ S _ fun v H1 Hf1 F g r n => ?_
              obtain ⟨a, xs, G, rfl, hq, rs⟩ := rep_lst g.s r
              obtain ⟨ks, k1, k2, k3⟩ := repS_pairs rs
              subst k1
              have kl : ks.length = ps.length := by
                have := congrArg List.length k2
                simpa using this
              have shape : ∀ q ∈ ks, ∃ p ∈ ps, q.2 = two2l p := fun q hq => by
                have : q.2 ∈ ps.map two2l := by rw [← k2]; exact List.mem_map.mpr ⟨q, hq, rfl⟩
                obtain ⟨p, h1, h2⟩ := List.mem_map.mp this
                exact ⟨p, h1, h2.symm⟩
              refine ⟨a, ks, rfl, c.hK ▸ hq, fun q hq => c.hK ▸ ex_t g.s (k3 q hq), by omega, fun st Ls hst hsub hall => ?_⟩
              obtain ⟨B, hB⟩ := ex_bound ps
              have up1 : Ex H1 (upd H1 st (SetTO X.prog X.w st Ls)) := Evl.Ex.new hst
              have bd : ∀ q ∈ Ls, q.2.length = 2 ∧ TS.Bd B q.2 := fun q hq => by
                obtain ⟨p, h1, h2⟩ := shape q (hsub q hq)
                rw [h2]
                refine ⟨rfl, fun z hz => ?_⟩
                have b1 := hB p h1
                have b2 := c2 p h1
                have hz' : z = p.1 ∨ z = p.2 := by simpa [two2l] using hz
                rcases hz' with rfl | rfl
                · exact ⟨b2.1, b1.1⟩
                · exact ⟨b2.2, b1.2⟩
              refine ⟨st, Ls, 2, B, rfl, upd_same, fun q hq => c.hK ▸ ex_t up1 (ex_t g.s (k3 q (hsub q hq))), by decide, bd, fun L' pa perm nd few pw hpa => ?_⟩
              have sub' : ∀ q ∈ L', q ∈ ks := fun q hq => hsub q (perm.mem_iff.mp hq)
              -- the pairs of what came out
              have key : L'.map (·.2) = (srtP ps).map two2l := by
                have e1 : (L'.map fun q => ((q.2.getD 0 0, q.2.getD 1 0) : Int × Int)) = srtP ps := by
                  refine same_pairs ?_ (srtP_sorted ps) fun x => ?_
                  · rw [List.pairwise_map]
                    have nd' : L'.Pairwise (fun q r => q.2 ≠ r.2) := List.pairwise_map.mp nd
                    refine List.Pairwise.imp_of_mem (fun {q r} hq hr h => ?_) (pw.and nd')
                    obtain ⟨p1, m1, e1⟩ := shape q (sub' q hq)
                    obtain ⟨p2, m2, e2⟩ := shape r (sub' r hr)
                    obtain ⟨_, b1⟩ := bd q (perm.mem_iff.mp hq)
                    obtain ⟨_, b2⟩ := bd r (perm.mem_iff.mp hr)
                    obtain ⟨h3, h4⟩ := h
                    rw [e1] at h3 h4 b1
                    rw [e2] at h3 h4 b2
                    have h5 := L2.code_lex b1 b2 h3
                    rw [e1, e2]
                    show p1.1 < p2.1 ∨ (p1.1 = p2.1 ∧ p1.2 < p2.2)
                    rcases h5 with h5 | ⟨h5, h6⟩
                    · exact .inl h5
                    · refine .inr ⟨h5, ?_⟩
                      rcases Int.lt_or_eq_of_le h6 with h7 | h7
                      · exact h7
                      · exact absurd (by unfold two2l; rw [h5, h7]) h4
                  · rw [mem_srtP, List.mem_map]
                    constructor
                    · rintro ⟨q, hq, rfl⟩
                      obtain ⟨p1, m1, e1⟩ := shape q (sub' q hq)
                      rw [e1]
                      exact m1
                    · intro hx
                      have : two2l x ∈ ks.map (·.2) := by rw [k2]; exact List.mem_map.mpr ⟨x, hx, rfl⟩
                      obtain ⟨q, hq, e3⟩ := List.mem_map.mp this
                      obtain ⟨q2, hq2, e4⟩ := List.mem_map.mp (hall q hq)
                      refine ⟨q2, perm.mem_iff.mpr hq2, ?_⟩
                      rw [e4, e3]
                      rfl
                rw [← e1, List.map_map]
                refine List.map_congr_left fun q hq => ?_
                obtain ⟨p1, m1, e2⟩ := shape q (sub' q hq)
                show q.2 = two2l (q.2.getD 0 0, q.2.getD 1 0)
                rw [e2]
                rfl
              have pn : H1 pa = none := none_back up1 hpa
              have gA : Gr Hf1 H1 Hf1 (upd H1 st (SetTO X.prog X.w st Ls)) := Gr.push g.s hst
              have gB : Gr Hf1 (upd H1 st (SetTO X.prog X.w st Ls)) Hf1 (upd (upd H1 st (SetTO X.prog X.w st Ls)) pa (.lst (L'.map fun q => V.ref q.1))) := Gr.push gA.s hpa
              refine p _ _ Hf1 [pa] (g.trans (gA.trans gB)) ⟨pa, _, [], rfl, rfl, upd_same, pairs_repS key fun q hq => k3 q (sub' q hq)⟩ fun _ => ?_
              exact New.upd (none_back g.e pn) (hf_none g.s pn)
            · cases hd3
        · cases hd2
    · cases e0
  · cases h
end
end Z

/-! Z21: xs[i].append(e). -/
namespace Z
open PySem PySem.Spec PyProof.Rows L2
open Evl (Ex ex_l ex_t ex_rd)
section
variable {T : Tab} {Hf H : Hp}
theorem repS_app2 {v : V} {d : D} (rd : rep T Hf H d v []) : ∀ {ds : List D} {xs : List V} {G : List Addr} {j : Nat} {es : List D}, repS T Hf H ds xs G → G.Nodup → ds[j]? = some (.lst .own es) →
    ∃ b ys, xs[j]? = some (.ref b) ∧ H b = some (.lst ys) ∧ b ∈ G ∧ ys.length = es.length ∧ repS T Hf (upd H b (.lst (ys ++ [v]))) (ds.set j (.lst .own (es ++ [d]))) xs G
  | [], _, _, j, es, _, _, h => by simp at h
  | d0 :: ds, _, _, 0, es, ⟨v0, vs, F1, F2, e, f, r, q⟩, nd, h => by
    subst e; subst f
    cases (Option.some.inj h : d0 = .lst .own es)
    obtain ⟨b, ys, G', rfl, rfl, hb, rs⟩ := r
    obtain ⟨n1, n2⟩ := List.nodup_cons.mp nd
    have nb : ∀ a ∈ G' ++ F2, a ≠ b := fun a ha z => n1 (z ▸ ha)
    have keep : ∀ (F : List Addr), (∀ a ∈ F, a ∈ G' ++ F2) → ∀ a ∈ F, ∀ o, H a = some o → upd H b (.lst (ys ++ [v])) a = some o := fun F hF a ha o q => by rw [upd_ne (nb a (hF a ha))]; exact q
    refine ⟨b, ys, rfl, hb, List.mem_cons_self, repS_len rs, .ref b, vs, b :: G', F2, rfl, rfl, ⟨b, _, G', rfl, rfl, upd_same, ?_⟩, repS_mono (fun _ _ q => q) _ _ _ (keep F2 fun a ha => List.mem_append_right _ ha) q⟩
    have r1 := repS_append (repS_mono (H' := upd H b (.lst (ys ++ [v]))) (fun _ _ q => q) _ _ _ (keep G' fun a ha => List.mem_append_left _ ha) rs)
      (show repS T Hf (upd H b (.lst (ys ++ [v]))) [d] [v] [] from ⟨v, [], [], [], rfl, rfl, rep_mono (fun _ _ q => q) _ _ _ (fun a ha => by cases ha) rd, rfl, rfl⟩)
    rw [List.append_nil] at r1
    exact r1
  | d0 :: ds, _, _, j + 1, es, ⟨v0, vs, F1, F2, e, f, r, q⟩, nd, h => by
    subst e; subst f
    obtain ⟨n1, n2, n3⟩ := List.nodup_append.mp nd
    obtain ⟨b, ys, h1, h2, h3, h4, h5⟩ := repS_app2 rd (j := j) q n2 h
    exact ⟨b, ys, h1, h2, List.mem_append_right _ h3, h4, v0, vs, F1, F2, rfl, rfl, rep_mono (fun _ _ q => q) _ _ _ (fun a ha o q => by rw [upd_ne (n3 a ha b h3)]; exact q) r, h5⟩
end
section
variable {L : Law} {N : List Str} {sc : Sc} {k : Nat}
theorem semS_app2 {i : Nat} {x : Str} {ix e : Expr} {ix' e' : E} {p1 p2 apos cpos pos : Pos} (hN : N[i]? = some x) (hv : Vis sc.toScope x) (hd : (x == ("__debug__" : Str)) = false) (hcd : (x == ("__classdict__" : Str)) = false)
    (hix : PlainIx ix) (hline : (apos.endLine == cpos.line) = true) (hs : ∀ env, starEach [e] env = [(false, eval e env)])
    (hb : ∀ env, attributeBase (.Subscript (.Name x p1) ix p2) "append" env (eval (.Subscript (.Name x p1) ix p2) env) = eval (.Subscript (.Name x p1) ix p2) env)
    (hi : SemE L N sc k ix ix') (he : SemE L N sc k e e') : SemS L N sc k (.Expr (.Call (.Attribute (.Subscript (.Name x p1) ix p2) "append" apos) [e] [] cpos) pos) (.app2 i ix' e') := by
  intro X c ρ o h Hf0 H0 Hf H σ S D p
  simp only [run1] at h
  split at h
  · rename_i j f1 d hd1 hd2
    split at h
    · rename_i ds hds
      split at h
      · rename_i es hes
        split at h
        · rename_i hc
          cases h
          simp only [Bool.and_eq_true, decide_eq_true_eq] at hc
          obtain ⟨⟨c1, c2⟩, c3⟩ := hc
          obtain ⟨Hf1, e1, S1⟩ := S.frzL (kept e' ++ peek ix')
          refine by_ps (ps_expr (pe_bm PySem.F.plainAttrs_list PySem.F.slot_list_append PySem.F.type_list_append mt_append (pe_ix ix_seq (pe_var (i := i) (by rw [c.hN]; exact hN) (by rw [c.hsc]; exact hv) hd hcd) (pe_ ix) hix) (pa_cons (pe_ e) pa_nil (by rw [hs]; rfl)) (hb _) (by rw [hs]; rfl) hline (by rw [hs]; rfl) rfl) rfl) ?_
          obtain ⟨w0, G0, hσ0, hr0, _, _, _, _⟩ := S1.mut (Gr.refl S1.sub) hds (New.nil (H := H) (Hf' := Hf1))
          obtain ⟨a, xs0, G1, rfl, eG0, hxs0, rs0⟩ := hr0
          refine ⟨.ref a, hσ0, hi X c _ (.int j) f1 hd1 Hf0 H0 Hf1 H σ S1 _ fun y H1 Hf2 F1 g1 r1 _ => ?_⟩
          obtain ⟨rfl, _⟩ := r1
          obtain ⟨w1, Ga, hσ1, hr1, _, _, _, _⟩ := S1.mut g1 hds (New.nil (H := H) (Hf' := Hf2))
          rw [hσ0] at hσ1
          cases hσ1
          obtain ⟨a', xs1, G2, ea, eG1, hxs1, rs1⟩ := hr1
          cases ea
          obtain ⟨vb, Gb, hb1, hb2, _⟩ := repS_get rs1 hes
          obtain ⟨b, ys1, Gc, rfl, _, hb3, _⟩ := hb2
          have jl : j.toNat < xs1.length := (List.getElem?_eq_some_iff.mp hb1).1
          have hat : atI xs1 j = some (.ref b) := by
            unfold atI ixN
            have j2 : j < (xs1.length : Int) := by omega
            rw [if_pos c2, if_pos j2]
            exact hb1
          refine .inl ⟨a, xs1, j, .ref b, rfl, rfl, .of hxs1, hat, .inl ⟨rfl, ys1, .of hb3⟩, he X c _ d true hd2 Hf0 H0 Hf2 H1 σ (S1.grow g1) _ fun v H2 Hf3 F g2 r n => ?_⟩
          have eF := fz_nil r c1
          subst eF
          obtain ⟨w, G, hσ, hr, nG, fG, dG, up⟩ := S1.mut (g1.trans g2) hds (New.nil (H := H) (Hf' := Hf3))
          rw [hσ0] at hσ
          cases hσ
          obtain ⟨a', xs, G3, ea, eG, hxs, rs⟩ := hr
          cases ea
          subst eG
          have ex : xs = xs1 := by
            have := g2.e a _ hxs1
            rw [hxs] at this
            injection this with this
            injection this
          subst ex
          obtain ⟨b', ys, h1, h2, h3, h4, h5⟩ := repS_app2 r rs (List.nodup_cons.mp nG).2 hes
          rw [hb1] at h1
          cases h1
          refine ⟨b, ys, v, rfl, rfl, h2, Evl.sz_lt (by rw [h4]; exact c3), p _ Hf3 _ (e1.trans (g1.trans g2).f) (up b (.lst (ys ++ [v])) (.lst .own (ds.set j.toNat (.lst .own (es ++ [d])))) (a :: G3) (List.mem_cons_of_mem _ h3) ?_ nG fun z hz => .inl hz)⟩
          have nab : a ≠ b := fun z => (List.nodup_cons.mp nG).1 (z ▸ h3)
          exact ⟨a, xs, G3, rfl, rfl, by rw [upd_ne nab]; exact hxs, h5⟩
        · cases h
      · cases h
    · cases h
  · cases h
theorem z_app2 {i : Nat} {x : Str} {ix e : Expr} {ix' e' : E} {p1 p2 apos cpos pos : Pos} (h : visB N sc i x = true) (hix : PlainIx ix) (hline : (apos.endLine == cpos.line) = true) (hs : ∀ env, starEach [e] env = [(false, eval e env)])
    (hb : ∀ env, attributeBase (.Subscript (.Name x p1) ix p2) "append" env (eval (.Subscript (.Name x p1) ix p2) env) = eval (.Subscript (.Name x p1) ix p2) env)
    (hi : SemE L N sc k ix ix') (he : SemE L N sc k e e') : SemS L N sc k (.Expr (.Call (.Attribute (.Subscript (.Name x p1) ix p2) "append" apos) [e] [] cpos) pos) (.app2 i ix' e') := let ⟨a, b, c, d⟩ := visB_ h; semS_app2 a b c d hix hline hs hb hi he
end
end Z

/-! Z22: parameters that are left out. -/
namespace Z
open PySem PySem.Spec PyProof.Rows L2
section
variable {K : PySem.W.Frag}
/-- what stands for parameters that aren't written -/
def DflOk (K : PySem.W.Frag) (dd : List D) (its : List Value) : Prop := ∃ dvs, Vals dvs its ∧ ∀ T : Tab, T.K = K → ∀ Hf H, repS T Hf H dd dvs []
theorem dfl_nil : DflOk K [] [] := ⟨[], .nil, fun _ _ _ _ => ⟨rfl, rfl⟩⟩
theorem dfl_cons {d : D} {v : Value} {dd : List D} {its : List Value} (h : DflOk K [d] [v]) (r : DflOk K dd its) : DflOk K (d :: dd) (v :: its) := by
  obtain ⟨dvs, h1, h2⟩ := h
  obtain ⟨evs, r1, r2⟩ := r
  cases h1 with
  | cons q t =>
    cases t
    refine ⟨_ :: evs, .cons q r1, fun T e Hf H => ?_⟩
    exact repS_append (h2 T e Hf H) (r2 T e Hf H)
theorem dfl_unit {e : Addr} {o : Obj} {n : Nat} (h : K.lookup e = some o) (hc : o.cls = .type "tuple") (hd : o.data = .seq #[] n) : DflOk K [.tup []] [.ref e] :=
  ⟨[.ref e], .cons rfl .nil, fun T eT Hf H => ⟨.ref e, [], [], [], rfl, rfl, ⟨e, [], rfl, rfl, .inr ⟨o, #[], n, by rw [eT]; exact h, hc, hd, by show 0 ≤ sizeLine; omega, .nil⟩, rfl, rfl⟩, rfl, rfl⟩⟩
theorem dfl_none : DflOk K [.non] [.none] := ⟨[.non], .cons rfl .nil, fun T _ Hf H => ⟨.non, [], [], [], rfl, rfl, ⟨rfl, rfl⟩, rfl, rfl⟩⟩
theorem dfl_int {i : Int} {t : Tok} : DflOk K [.int i] [.int i t] := ⟨[.int i], .cons ⟨t, rfl⟩ .nil, fun T _ Hf H => ⟨.int i, [], [], [], rfl, rfl, ⟨rfl, rfl⟩, rfl, rfl⟩⟩
theorem dfl_bl {b : Bool} : DflOk K [.bl b] [.bool b] := ⟨[.bl b], .cons rfl .nil, fun T _ Hf H => ⟨.bl b, [], [], [], rfl, rfl, ⟨rfl, rfl⟩, rfl, rfl⟩⟩
/-- a def that may be called with some parameters left out -/
structure CalD (L : Law) (k' : Nat) (x : Str) (f : Nat) (dd : List D) : Prop where
  ex : ∃ dvs, C8.Cal L.P L.w L.T.K L.mg L.base k' x (spD L.T (L.G.call f)) dvs ∧ ∀ Hf H, repS L.T Hf H dd dvs []
theorem CalD.of {L : Law} {k' : Nat} {x : Str} {f : Nat} {dd : List D} {st : Stmt} {ps : List Str} {a : Addr} {fd : FuncData} (A : At L.T.K L.mg x st ps a fd) (B : ∃ ds, Binds L.T.K fd ps ds ∧ DflOk L.T.K dd ds)
    (h : FnOk L.P L.w L.T.K L.mg L.base CX0 k' a fd ps (spD L.T (L.G.call f))) : CalD L k' x f dd := by
  obtain ⟨ds, b, dvs, v, r⟩ := B
  exact ⟨dvs, ⟨a, fd, ps, ds, h, A.mgf, A.kp, b, v⟩, fun Hf H => r L.T rfl Hf H⟩
theorem binds_d {x qual : Str} {st : Stmt} {ps : List Str} {T : Addr} {o : Obj} {its : List Value} {n : Nat} {kV doc pm : Value} {an : Option Addr} {cdv ct : Value} (lT : K.lookup T = some o) (oT : o.data = .seq its.toArray n) (ds : List Value)
    (h : ∀ us : List Value, (us ++ ds).length = ps.length → ∃ k, bindArgs (PySem.W.fnOf x qual (C8.fnArgs st) (C8.fnBody st) (C8.fnScope st) (.ref T) kV doc pm an cdv ct) ⟨us, []⟩ = seqItems? (.ref T) >>= k ∧ k (some its.toArray) = pure (ps.zip (us ++ ds))) :
    Binds K (PySem.W.fnOf x qual (C8.fnArgs st) (C8.fnBody st) (C8.fnScope st) (.ref T) kV doc pm an cdv ct) ps ds := fun s us X hlen => by
  obtain ⟨k, e1, e2⟩ := h us hlen
  refine BindsTo.of_looks fun M => ?_
  rw [e1]
  exact looks_items X lT oT (.of_pure e2)
end
section
variable {L : Law} {N : List Str} {sc : Sc} {k : Nat}
theorem z_callD {f k' : Nat} {x : Str} {e : Expr} {es : List Expr} {es' : Es} {dd : List D} {p0 pos : Pos} (C : CalD L k' x f dd) (hk : k' ≤ k) (h : gdB sc x = true)
    (hs : ∀ env, starEach (e :: es) env = (false, eval e env) :: starEach es env) (hpl : ∀ pos env, (backTo pos (starEach es env)).any (·.1) = false) (ha : SemA L N sc k (e :: es) es') : SemE L N sc k (.Call (.Name x p0) (e :: es) [] pos) (.call f es' dd) :=
  let ⟨a, d, _⟩ := gdB_ h
  let ⟨_, C', r⟩ := C.ex
  sem_call C' r hk a d hs hpl ha
theorem sem_keep {e : Expr} {e' : E} (h : SemE L N sc k e e') : SemE L N sc k e (.keep e') := fun X c ρ d fr hh => h X c ρ d fr (by simp only [ev] at hh; exact hh)
end
end Z

/-! Z23: computing: while, items, fields, objects. -/
namespace Z
open PySem L2
section
variable {G : Gd} {ρ : Rho}
theorem while_inv {c : Rho → Option Bool} {body : Rho → Option Out} (J : Nat → Rho → Prop) (F : Rho → Prop) (hs : ∀ n ρ, J n ρ → (c ρ = some false ∧ F ρ) ∨ (c ρ = some true ∧ ∃ m ρ', m < n ∧ (body ρ = some (.nx ρ') ∨ body ρ = some (.ct ρ')) ∧ J m ρ')) :
    ∀ (n N : Nat) (ρ : Rho), J n ρ → n < N → ∃ ρ', whileD c body N ρ = some (.nx ρ') ∧ F ρ'
  | n, 0, ρ, _, h => absurd h (Nat.not_lt_zero _)
  | n, N + 1, ρ, hj, h => by
    unfold whileD
    rcases hs n ρ hj with ⟨h1, h2⟩ | ⟨h1, m, ρ', h2, h3, h4⟩
    · exact ⟨ρ, by rw [h1], h2⟩
    · obtain ⟨ρ2, h5, h6⟩ := while_inv J F hs m N ρ' h4 (by omega)
      refine ⟨ρ2, ?_, h6⟩
      rw [h1]
      rcases h3 with h3 | h3 <;> rw [h3] <;> exact h5
theorem run1_while {c : E} {b : Ss} {ρ1 : Rho} {o : Option Out} (h0 : frzL ρ (peek c) = ρ1) (h1 : whileD (test G c) (runs G b) G.wf ρ1 = o) : run1 G (.while_ c b) ρ = o := by
  subst h0
  simp only [run1]
  exact h1
theorem run1_fld {ρ1 : Rho} {i k c : Nat} {e : E} {d : D} {a : Addr} {ks ks' : List Nat} {ds ds' : List D} (h0 : frzL ρ (kept e) = ρ1) (h1 : ev G e ρ1 = some (d, true)) (h2 : ρ1[i]? = some (some (.obj (some a) c ks ds))) (h3 : putK k (frz d) ks ds = some (ks', ds')) (h4 : ds.length < 1000) : run1 G (.fld i k e) ρ = some (.nx (ρ1.set i (some (.obj (some a) c ks' ds')))) := by
  subst h0
  simp only [run1, h1, h2, h3, decide_eq_true h4, if_true]
theorem run1_sub {ρ1 : Rho} {i : Nat} {ix e : E} {d : D} {j : Int} {f : Bool} {ds : List D} (h0 : frzL ρ (kept e ++ peek ix) = ρ1) (h1 : ev G e ρ1 = some (d, true)) (h2 : ev G ix ρ1 = some (.int j, f)) (h3 : ρ1[i]? = some (some (.lst .own ds))) (h4 : fzs ds = true) (h5 : d.fz = true) (h6 : 0 ≤ j) (h7 : j < ds.length) :
    run1 G (.sub i ix e) ρ = some (.nx (ρ1.set i (some (.lst .own (ds.set j.toNat d))))) := by
  subst h0
  simp only [run1, h1, h2, h3, h4, h5, decide_eq_true h6, decide_eq_true h7, Bool.and_true, if_true]
theorem run1_app2 {ρ1 : Rho} {i : Nat} {ix e : E} {d : D} {j : Int} {f : Bool} {ds es : List D} (h0 : frzL ρ (kept e ++ peek ix) = ρ1) (h1 : ev G e ρ1 = some (d, true)) (h2 : ev G ix ρ1 = some (.int j, f)) (h3 : ρ1[i]? = some (some (.lst .own ds))) (h4 : ds[j.toNat]? = some (.lst .own es)) (h5 : d.fz = true) (h6 : 0 ≤ j) (h7 : es.length < most) :
    run1 G (.app2 i ix e) ρ = some (.nx (ρ1.set i (some (.lst .own (ds.set j.toNat (.lst .own (es ++ [d]))))))) := by
  subst h0
  simp only [run1, h1, h2, h3, h4, h5, decide_eq_true h6, decide_eq_true h7, Bool.and_true, if_true]
theorem init_of {c : Nat} {F : Z.Def} {a : Addr} {ds fs : List D} {ks : List Nat} {ρ : Rho} (hl : ds.length + 1 = F.ps) (h : runs G F.body (startR F.n (D.obj (some a) c [] [] :: ds)) = some (.nx ρ)) (h0 : ρ[0]? = some (some (.obj (some a) c ks fs))) : initD G c F a ds = some (.obj none c ks fs) := by
  unfold initD
  rw [if_pos hl, h]
  simp only [h0, and_self, if_true]
end
end Z

/-! Z24: what a body does, said by what it leaves: P of the slots where it runs through, Q of what it returns. -/
namespace Z
open PySem L2
section
variable {G : Gd} {ρ : Rho}
def Wp (G : Gd) (b : Ss) (ρ : Rho) (P : Rho → Prop) (Q : D → Prop) : Prop := (∃ ρ2, runs G b ρ = some (.nx ρ2) ∧ P ρ2) ∨ (∃ d, runs G b ρ = some (.rt d) ∧ Q d)
variable {P P' : Rho → Prop} {Q Q' : D → Prop} {r : Ss}
theorem Wp.mono {b : Ss} (h : Wp G b ρ P Q) (hp : ∀ ρ, P ρ → P' ρ) (hq : ∀ d, Q d → Q' d) : Wp G b ρ P' Q' := h.imp (fun ⟨a, b, c⟩ => ⟨a, b, hp _ c⟩) fun ⟨a, b, c⟩ => ⟨a, b, hq _ c⟩
theorem wp_nil (h : P ρ) : Wp G .nil ρ P Q := .inl ⟨ρ, by simp only [runs], h⟩
theorem wp_s {s : S} {ρ' : Rho} (h : run1 G s ρ = some (.nx ρ')) (k : Wp G r ρ' P Q) : Wp G (.cons s r) ρ P Q := by
  have e : runs G (.cons s r) ρ = runs G r ρ' := by simp only [runs, h]
  unfold Wp
  rw [e]
  exact k
theorem wp_asg {tg : Tg} {e : E} {ρ1 ρ' : Rho} {d : D} (h0 : frzL ρ (kept e) = ρ1) (h1 : ev G e ρ1 = some (d, true)) (h2 : bindT tg d ρ1 = some ρ') (k : Wp G r ρ' P Q) : Wp G (.cons (.asg tg e) r) ρ P Q := wp_s (run1_asg h0 h1 h2) k
theorem wp_app {i : Nat} {e : E} {ρ1 : Rho} {d : D} {ds : List D} (h0 : frzL ρ (kept e) = ρ1) (h1 : ev G e ρ1 = some (d, true)) (h2 : ρ1[i]? = some (some (.lst .own ds))) (h3 : ds.length < most) (k : Wp G r (ρ1.set i (some (.lst .own (ds ++ [d])))) P Q) : Wp G (.cons (.app i e) r) ρ P Q := wp_s (run1_app h0 h1 h2 h3) k
theorem wp_app2 {ρ1 : Rho} {i : Nat} {ix e : E} {d : D} {j : Int} {f : Bool} {ds es : List D} (h0 : frzL ρ (kept e ++ peek ix) = ρ1) (h1 : ev G e ρ1 = some (d, true)) (h2 : ev G ix ρ1 = some (.int j, f)) (h3 : ρ1[i]? = some (some (.lst .own ds))) (h4 : ds[j.toNat]? = some (.lst .own es)) (h5 : d.fz = true) (h6 : 0 ≤ j) (h7 : es.length < most)
    (k : Wp G r (ρ1.set i (some (.lst .own (ds.set j.toNat (.lst .own (es ++ [d])))))) P Q) : Wp G (.cons (.app2 i ix e) r) ρ P Q := wp_s (run1_app2 h0 h1 h2 h3 h4 h5 h6 h7) k
theorem wp_drop {e : E} {ρ1 : Rho} {d : D × Bool} (h0 : frzL ρ (kept e) = ρ1) (h1 : ev G e ρ1 = some d) (k : Wp G r ρ1 P Q) : Wp G (.cons (.drop e) r) ρ P Q := wp_s (run1_drop h0 h1) k
theorem wp_ret {e : E} {ρ1 : Rho} {d : D} (h0 : frzL ρ (kept e) = ρ1) (h1 : ev G e ρ1 = some (d, true)) (k : Q d) : Wp G (.cons (.ret e) r) ρ P Q := .inr ⟨d, runs_rt (run1_ret h0 h1), k⟩
theorem wp_if {c : E} {a b : Ss} {ρ1 : Rho} {t f : Bool} (h0 : frzL ρ (peek c) = ρ1) (h1 : ev G c ρ1 = some (.bl t, f)) (k : Wp G (if t then a else b) ρ1 (fun ρ2 => Wp G r ρ2 P Q) Q) : Wp G (.cons (.ite c a b) r) ρ P Q := by
  have e : run1 G (.ite c a b) ρ = runs G (if t then a else b) ρ1 := by
    cases t
    · exact run1_f h0 (test_of h1)
    · exact run1_t h0 (test_of h1)
  rcases k with ⟨ρ2, k1, k2⟩ | ⟨d, k1, k2⟩
  · exact wp_s (e.trans k1) k2
  · exact .inr ⟨d, runs_rt (e.trans k1), k2⟩
theorem wp_for {tg : Tg} {it : It} {b : Ss} {ρ1 : Rho} {items : List D} (J : Nat → Rho → Prop) (h0 : frzL ρ (keptI it) = ρ1) (h1 : evI G it ρ1 = some items) (hj : J 0 ρ1)
    (hs : ∀ i d ρ, items[i]? = some d → J i ρ → ∃ ρa, bindT tg d ρ = some ρa ∧ Wp G b ρa (J (i + 1)) fun _ => False) (k : ∀ ρ', J items.length ρ' → Wp G r ρ' P Q) : Wp G (.cons (.for_ tg it b) r) ρ P Q := by
  obtain ⟨ρ', h2, h3⟩ := for_inv (bd := bindT tg) (body := runs G b) J hj fun i d ρ hi hp => by
    obtain ⟨ρa, q1, q2⟩ := hs i d ρ hi hp
    rcases q2 with ⟨ρ2, q3, q4⟩ | ⟨d, _, q4⟩
    · exact ⟨ρa, ρ2, q1, .inl q3, q4⟩
    · exact q4.elim
  exact wp_s (run1_for h0 h1 h2) (k ρ' h3)
theorem wp_def {f : Z.Def} {ds : List D} (hl : ds.length = f.ps) (h : Wp G f.body (startR f.n ds) (fun _ => Q .non) Q) : ∃ d, runD G f ds = some d ∧ Q d := by
  rcases h with ⟨ρ2, h1, h2⟩ | ⟨d, h1, h2⟩
  · exact ⟨.non, runD_nx hl h1, h2⟩
  · exact ⟨d, runD_rt hl h1, h2⟩
end
end Z

/-! M5a: numbers as sets of places: and, or, not, the lowest place. -/
namespace Bt
open PySem L2 Z
theorem and_n (a b : Nat) : Builtin.bitAnd (a : Int) (b : Int) = ((a &&& b : Nat) : Int) := by
  unfold Builtin.bitAnd
  rw [decide_eq_true (by omega : (0 : Int) ≤ (a : Int)), decide_eq_true (by omega : (0 : Int) ≤ (b : Int))]
  rfl
theorem or_n (a b : Nat) : Builtin.bitOr (a : Int) (b : Int) = ((a ||| b : Nat) : Int) := by
  rw [bitOr_nn (by omega) (by omega)]
  rfl
/-- what stands in both, and what in one -/
theorem and_add_diff : ∀ (n a b : Nat), a < 2 ^ n → ∃ c, c + (a &&& b) = a ∧ ∀ i, c.testBit i = (a.testBit i && !b.testBit i)
  | 0, a, b, h => by
    have : a = 0 := by simpa using h
    subst this
    exact ⟨0, by simp, fun i => by simp⟩
  | n + 1, a, b, h => by
    obtain ⟨c, h1, h2⟩ := and_add_diff n (a / 2) (b / 2) (by rw [Nat.pow_succ] at h; omega)
    have e : (a &&& b) / 2 = a / 2 &&& b / 2 := by
      apply Nat.eq_of_testBit_eq
      intro i
      simp only [Nat.testBit_and, Nat.testBit_div_two]
    have e0 : (a &&& b) % 2 = if a % 2 = 1 ∧ b % 2 = 1 then 1 else 0 := by
      have q : (a &&& b).testBit 0 = (a.testBit 0 && b.testBit 0) := Nat.testBit_and ..
      simp only [Nat.testBit_zero] at q
      rcases Nat.mod_two_eq_zero_or_one (a &&& b) with x | x <;> rcases Nat.mod_two_eq_zero_or_one a with y | y <;> rcases Nat.mod_two_eq_zero_or_one b with z | z <;> simp [x, y, z] at q ⊢
    refine ⟨2 * c + (if a % 2 = 1 ∧ ¬ b % 2 = 1 then 1 else 0), ?_, fun i => ?_⟩
    · have ea := Nat.div_add_mod a 2
      have eb := Nat.div_add_mod (a &&& b) 2
      rw [e, e0] at eb
      have := Nat.mod_two_eq_zero_or_one a
      have := Nat.mod_two_eq_zero_or_one b
      split <;> rename_i x <;> split at eb <;> rename_i y <;> omega
    · cases i with
      | zero =>
        simp only [Nat.testBit_zero]
        have := Nat.mod_two_eq_zero_or_one a
        have := Nat.mod_two_eq_zero_or_one b
        rcases Nat.mod_two_eq_zero_or_one a with y | y <;> rcases Nat.mod_two_eq_zero_or_one b with z | z <;> simp [y, z] <;> omega
      | succ i =>
        rw [Nat.testBit_succ, Nat.testBit_succ, Nat.testBit_succ, ← h2]
        congr 1
        split <;> omega
/-- a without what b has -/
theorem and_not (a b : Nat) : ∃ c : Nat, Builtin.bitAnd (a : Int) (Builtin.bitNot (b : Int)) = (c : Int) ∧ ∀ i, c.testBit i = (a.testBit i && !b.testBit i) := by
  obtain ⟨c, h1, h2⟩ := and_add_diff a a b Nat.lt_two_pow_self
  refine ⟨c, ?_, h2⟩
  have hb : Builtin.bitNot (b : Int) = -(b : Int) - 1 := rfl
  unfold Builtin.bitAnd
  rw [decide_eq_true (by omega : (0 : Int) ≤ (a : Int)), decide_eq_false (by omega : ¬ (0 : Int) ≤ Builtin.bitNot (b : Int))]
  have e2 : Builtin.bitNot (Builtin.bitNot (b : Int)) = (b : Int) := by show -(-(b : Int) - 1) - 1 = _; omega
  show (a : Int) - (((a : Int).toNat &&& (Builtin.bitNot (Builtin.bitNot (b : Int))).toNat : Nat) : Int) = _
  rw [e2]
  show (a : Int) - ((a &&& b : Nat) : Int) = _
  omega
/-- the lowest place of m -/
theorem low_ex : ∀ (n m : Nat), m < 2 ^ n → 0 < m → ∃ k q, m = 2 ^ k * (2 * q + 1)
  | 0, m, h, h0 => by simp at h; omega
  | n + 1, m, h, h0 => by
    rcases Nat.mod_two_eq_zero_or_one m with e | e
    · obtain ⟨k, q, hq⟩ := low_ex n (m / 2) (by rw [Nat.pow_succ] at h; omega) (by omega)
      refine ⟨k + 1, q, ?_⟩
      have : m = 2 * (m / 2) := by omega
      rw [this, hq, Nat.pow_succ, Nat.mul_comm (2 ^ k) 2, Nat.mul_assoc]
    · exact ⟨0, m / 2, by rw [Nat.pow_zero]; omega⟩
theorem low_bits (k q i : Nat) : (2 ^ k * (2 * q + 1)).testBit i = if i < k then false else if i = k then true else (2 * q + 1).testBit (i - k) := by
  rw [Nat.testBit_two_pow_mul]
  by_cases h : i < k
  · rw [if_pos h]; simp; omega
  · rw [if_neg h]
    by_cases e : i = k
    · subst e; simp
    · rw [if_neg e]; simp; omega
theorem low_and (k q : Nat) : Builtin.bitAnd ((2 ^ k * (2 * q + 1) : Nat) : Int) (-((2 ^ k * (2 * q + 1) : Nat) : Int)) = ((2 ^ k : Nat) : Int) := by
  have hm : 0 < 2 ^ k * (2 * q + 1) := Nat.mul_pos (Nat.two_pow_pos k) (by omega)
  generalize em : 2 ^ k * (2 * q + 1) = m at hm ⊢
  have e1 : m &&& (m - 1) = 2 ^ (k + 1) * q := by
    apply Nat.eq_of_testBit_eq
    intro i
    have h1 : m - 1 = 2 ^ k * (2 * q) + (2 ^ k - 1) := by
      have := Nat.two_pow_pos k
      rw [← em, Nat.mul_add]
      omega
    have h2 : 2 ^ (k + 1) * q = 2 ^ k * (2 * q) := by rw [Nat.pow_succ, Nat.mul_assoc]
    rw [Nat.testBit_and, h1, h2, ← em, Nat.testBit_two_pow_mul_add _ (by have := Nat.two_pow_pos k; omega), Nat.testBit_two_pow_mul, Nat.testBit_two_pow_mul]
    by_cases h : i < k
    · have h' : ¬ k ≤ i := by omega
      simp [h, h']
    · have h' : k ≤ i := by omega
      simp only [h, h', ge_iff_le, decide_true, Bool.true_and, if_false]
      obtain ⟨j, rfl⟩ : ∃ j, i = k + j := ⟨i - k, by omega⟩
      rw [Nat.add_sub_cancel_left]
      cases j with
      | zero => simp
      | succ j => rw [Nat.testBit_succ, Nat.testBit_succ, show (2 * q + 1) / 2 = q by omega, show 2 * q / 2 = q by omega, Bool.and_self]
  unfold Builtin.bitAnd
  rw [decide_eq_true (by omega : (0 : Int) ≤ (m : Int)), decide_eq_false (by omega : ¬ (0 : Int) ≤ -(m : Int))]
  have e2 : (Builtin.bitNot (-(m : Int))).toNat = m - 1 := by
    have : Builtin.bitNot (-(m : Int)) = -(-(m : Int)) - 1 := rfl
    rw [this]; omega
  show (m : Int) - (((m : Int).toNat &&& (Builtin.bitNot (-(m : Int))).toNat : Nat) : Int) = _
  rw [e2, show ((m : Int).toNat) = m from rfl, e1]
  have h3 : 2 ^ (k + 1) * q = 2 ^ k * (2 * q) := by rw [Nat.pow_succ, Nat.mul_assoc]
  have h4 : m = 2 ^ k * (2 * q) + 2 ^ k := by rw [← em, Nat.mul_add, Nat.mul_one]
  omega
theorem low_xor (k q : Nat) : Builtin.bitXor ((2 ^ k * (2 * q + 1) : Nat) : Int) ((2 ^ k : Nat) : Int) = ((2 ^ (k + 1) * q : Nat) : Int) := by
  have h3 : 2 ^ (k + 1) * q = 2 ^ k * (2 * q) := by rw [Nat.pow_succ, Nat.mul_assoc]
  have h4 : 2 ^ k * (2 * q + 1) = 2 ^ k * (2 * q) + 2 ^ k := by rw [Nat.mul_add, Nat.mul_one]
  have ea : 2 ^ k * (2 * q + 1) &&& 2 ^ k = 2 ^ k := by
    apply Nat.eq_of_testBit_eq
    intro i
    rw [Nat.testBit_and, low_bits, Nat.testBit_two_pow]
    by_cases h : i < k
    · simp [h]; omega
    · by_cases e : i = k
      · subst e; simp
      · have : ¬ k = i := fun z => e z.symm
        simp [h, e, this]
  rw [PyProof.Rows.bitXor_and, and_n, ea]
  omega
theorem low_bitlen (k : Nat) : (Builtin.Int.intBits ((2 ^ k : Nat) : Int) : Nat) = k + 1 := by
  have h1 : Builtin.Int.intBits ((2 ^ k : Nat) : Int) ≤ k + 1 := intBits_le_iff.mpr (by
    rw [Int.natAbs_natCast, Nat.pow_succ]; have := Nat.two_pow_pos k; omega)
  have h2 : ¬ Builtin.Int.intBits ((2 ^ k : Nat) : Int) ≤ k := fun h => by
    have := intBits_le_iff.mp h
    rw [Int.natAbs_natCast] at this
    omega
  omega
end Bt

/-! Z25: composing what expressions compute; lists, tuples, pairs of numbers; lines, masks. -/
namespace Z
open PySem L2 Bt
section
variable {G : Gd} {ρ : Rho}
theorem eqD_i (i j : Int) : eqD (.int i) (.int j) = some (i == j) := rfl
def nD (m : Nat) : D := .int (m : Int)
def nsD (l : List Nat) : D := .tup (l.map nD)
theorem nD_frz (m : Nat) : frz (nD m) = nD m := rfl
theorem fzs_n (l : List Nat) : fzs (l.map nD) = true := fzs_all fun d hd => by obtain ⟨i, _, rfl⟩ := List.mem_map.mp hd; rfl
theorem frzS_n (l : List Nat) : frzS (l.map nD) = l.map nD := frzS_id fun d hd => by obtain ⟨i, _, rfl⟩ := List.mem_map.mp hd; rfl
theorem enum_get : ∀ (ds : List D) (k : Int) (i : Nat), (enumD k ds)[i]? = (ds[i]?).map fun d => D.tup [.int (k + i), d]
  | [], k, i => by simp [enumD]
  | d :: r, k, 0 => by simp [enumD]
  | d :: r, k, i + 1 => by
    show (enumD (k + 1) r)[i]? = _
    rw [enum_get r (k + 1) i, List.getElem?_cons_succ]
    have : k + 1 + (i : Int) = k + ((i + 1 : Nat) : Int) := by omega
    rw [this]
theorem enum_len : ∀ (ds : List D) (k : Int), (enumD k ds).length = ds.length
  | [], _ => rfl
  | d :: r, k => by show (enumD (k + 1) r).length + 1 = _; rw [enum_len r]; rfl
def lineD (p : Nat × Nat) : D := .tup [nD p.1, nD p.2]
theorem frzS_line (ls : List (Nat × Nat)) : frzS (ls.map lineD) = ls.map lineD := frzS_id fun d hd => by obtain ⟨x, _, rfl⟩ := List.mem_map.mp hd; rfl
theorem fzs_line (ls : List (Nat × Nat)) : fzs (ls.map lineD) = true := fzs_all fun d hd => by obtain ⟨x, _, rfl⟩ := List.mem_map.mp hd; rfl
theorem fzs_ns (nr : List (List Nat)) : fzs (nr.map nsD) = true := fzs_all fun d hd => by obtain ⟨x, _, rfl⟩ := List.mem_map.mp hd; rfl
theorem frzS_ns (nr : List (List Nat)) : frzS (nr.map nsD) = nr.map nsD := frzS_id fun d hd => by obtain ⟨x, _, rfl⟩ := List.mem_map.mp hd; rfl
theorem shl1 (b : Nat) (h : b ≤ 1000000) : binD .LShift (.int 1) (.int (b : Int)) = some (nD (2 ^ b)) := by
  have : shOk 1 (b : Int) = true := by
    unfold shOk
    rw [decide_eq_true (by omega : (0 : Int) ≤ (b : Int)), decide_eq_true (by omega : (b : Int) ≤ 1000000)]
    rfl
  unfold binD
  simp only [this, if_true]
  show some (D.int (1 * 2 ^ b)) = _
  rw [Int.one_mul]
  unfold nD
  rw [Int.natCast_pow]
  rfl
theorem or_D (x y : Nat) : binD .BitOr (.int (x : Int)) (.int (y : Int)) = some (nD (x ||| y)) := by
  show some (D.int (Builtin.bitOr (x : Int) (y : Int))) = _
  rw [or_n]
  rfl
theorem at_n (ms : List Nat) (a : Nat) (h : a < ms.length) : at? (ms.map nD) (a : Int) = some (nD (ms.getD a 0)) := by
  rw [at_nat _ _ (by omega) (by rw [List.length_map]; omega), Int.toNat_natCast, List.getElem?_map, List.getElem?_eq_getElem h, List.getD_eq_getElem?_getD, List.getElem?_eq_getElem h]
  rfl
/-- a line joins the places -/
def Adj (ls : List (Nat × Nat)) (a b : Nat) : Prop := ∃ p ∈ ls, (p.1 = a ∧ p.2 = b) ∨ (p.1 = b ∧ p.2 = a)
theorem getD_set (ms : List Nat) (a x i : Nat) (h : a < ms.length) : (ms.set a x).getD i 0 = if i = a then x else ms.getD i 0 := by
  rw [List.getD_eq_getElem?_getD, List.getD_eq_getElem?_getD]
  by_cases e : i = a
  · subst e
    rw [if_pos rfl, List.getElem?_set_self h]
    rfl
  · rw [if_neg e, List.getElem?_set_ne (Ne.symm e)]
theorem take_succ' {α : Type} {l : List α} {i : Nat} {x : α} (h : l[i]? = some x) : l.take (i + 1) = l.take i ++ [x] := by
  rw [List.take_succ, h]
  rfl
theorem flat_rep {α : Type} (x : α) : ∀ n : Nat, (List.replicate n [x]).flatten = List.replicate n x
  | 0 => rfl
  | n + 1 => by rw [List.replicate_succ, List.flatten_cons, flat_rep x n]; rfl
structure Masks (n : Nat) (ls : List (Nat × Nat)) (ms : List Nat) : Prop where
  len : ms.length = n
  bit : ∀ a b, (ms.getD a 0).testBit b = true ↔ Adj ls a b
theorem ev_bin_of {op : Operator} {a b : E} {x y d : D} {f g : Bool} (h1 : ev G a ρ = some (x, f)) (h2 : ev G b ρ = some (y, g)) (h3 : binG G op x y = some d) : ev G (.bin op a b) ρ = some (d, true) := by
  rw [ev_bin, h1, h2]
  show (binG G op x y).map _ = _
  rw [h3]
  rfl
theorem evO {a b : E} {x y : Nat} {f g : Bool} (h1 : ev G a ρ = some (nD x, f)) (h2 : ev G b ρ = some (nD y, g)) : ev G (.bin .BitOr a b) ρ = some (nD (x ||| y), true) := ev_bin_of h1 h2 (or_D x y)
theorem evS {b : E} {k : Nat} {g : Bool} (h2 : ev G b ρ = some (nD k, g)) (hk : k ≤ 1000000) : ev G (.bin .LShift (.con (.int 1)) b) ρ = some (nD (2 ^ k), true) := ev_bin_of (x := .int 1) (by rw [ev_con]; rfl) h2 (binG_i.trans (shl1 k hk))
theorem evAt {a b : E} {m : M} {ms : List Nat} {k : Nat} {f g : Bool} (h1 : ev G a ρ = some (.lst m (ms.map nD), f)) (h2 : ev G b ρ = some (nD k, g)) (hk : k < ms.length) : ev G (.idx a b) ρ = some (nD (ms.getD k 0), true) := by
  rw [ev_idx, h1, h2]
  show (at? (ms.map nD) (k : Int)).map (fun d => (d, d.fz)) = _
  rw [at_n ms k hk]
  rfl
theorem evAtT {a b : E} {ms : List Nat} {k : Nat} {f g : Bool} (h1 : ev G a ρ = some (nsD ms, f)) (h2 : ev G b ρ = some (nD k, g)) (hk : k < ms.length) : ev G (.idx a b) ρ = some (nD (ms.getD k 0), true) := by
  rw [ev_idx, h1, h2]
  show (at? (ms.map nD) (k : Int)).map (fun d => (d, d.fz)) = _
  rw [at_n ms k hk]
  rfl
theorem evSl {i : Nat} {d : D} (h : ρ[i]? = some (some d)) : ev G (.slot i) ρ = some (d, d.fz) := by rw [ev_slot, h]
theorem frzS_cons' (d : D) (ds : List D) : frzS (d :: ds) = frz d :: frzS ds := rfl
theorem frzS_nil' : frzS [] = [] := rfl
theorem evCh {G : Gd} {ρ : Rho} {a b c : E} {x y z : Int} {f g h : Bool} (h1 : ev G a ρ = some (.int x, f)) (h2 : ev G b ρ = some (.int y, g)) (h3 : ev G c ρ = some (.int z, h)) : ev G (.chain .LtE .Lt a b c) ρ = some (.bl (decide (x ≤ y) && decide (y < z)), true) := by
  rw [ev_chain, h1, h2]
  have e : cmpD .LtE (.int x) (.int y) = some (decide (x ≤ y)) := rfl
  have e2 : cmpD .Lt (.int y) (.int z) = some (decide (y < z)) := rfl
  by_cases c : x ≤ y
  · rw [decide_eq_true c] at e ⊢
    simp only [e, h3, e2, Option.map_some, Bool.true_and]
  · rw [decide_eq_false c] at e ⊢
    simp only [e, Bool.false_and]
theorem evEq {a b : E} {x y : Int} {f g : Bool} (h1 : ev G a ρ = some (.int x, f)) (h2 : ev G b ρ = some (.int y, g)) : test G (.cmp .Eq a b) ρ = some (x == y) := by
  refine test_of (f := true) ?_
  rw [ev_cmp, h1, h2]
  show (cmpG G .Eq (.int x) (.int y)).map _ = _
  rw [cmpG_i]
  rfl
theorem evCon {d : D} (h : d.scal = true) : ev G (.con d) ρ = some (d, true) := by rw [ev_con, if_pos h]
structure SeqN (P : D) (l : List Nat) : Prop where
  fr : frz P = P
  fz : P.fz = true
  seq : seqD P = some (l.map nD)
  len : ∀ G, bltG G .len [P] = some (nD l.length)
  tup : ∀ G, bltG G .tuple [P] = some (nsD l)
theorem seqN_t (l : List Nat) : SeqN (nsD l) l := ⟨rfl, rfl, rfl, fun G => by show some (D.int ((l.map nD).length : Int)) = _; rw [List.length_map]; rfl, fun G => rfl⟩
theorem seqN_l (l : List Nat) : SeqN (.lst .fz (l.map nD)) l := ⟨by show D.lst .fz (frzS _) = _; rw [frzS_n], rfl, rfl, fun G => by show some (D.int ((l.map nD).length : Int)) = _; rw [List.length_map]; rfl, fun G => by show (if fzs (l.map nD) then some (D.tup (l.map nD)) else none) = _; rw [fzs_n]; rfl⟩
theorem evLen {a : E} {P : D} {l : List Nat} {f : Bool} (S : SeqN P l) (h : ev G a ρ = some (P, f)) : ev G (.blt .len (.cons a .nil)) ρ = some (nD l.length, true) := by
  rw [ev_blt, evs_cons, evs_nil, h]
  show (bltG G .len [P]).map _ = _
  rw [S.len]
  rfl
theorem evTup {a : E} {P : D} {l : List Nat} {f : Bool} (S : SeqN P l) (h : ev G a ρ = some (P, f)) : ev G (.blt .tuple (.cons a .nil)) ρ = some (nsD l, true) := by
  rw [ev_blt, evs_cons, evs_nil, h]
  show (bltG G .tuple [P]).map _ = _
  rw [S.tup]
  rfl
theorem evCmp {op : CmpOp} {a b : E} {x y : Int} {k : Bool} {f g : Bool} (h1 : ev G a ρ = some (.int x, f)) (h2 : ev G b ρ = some (.int y, g)) (h3 : cmpD op (.int x) (.int y) = some k) : ev G (.cmp op a b) ρ = some (.bl k, true) := by
  rw [ev_cmp, h1, h2]
  show (cmpG G op (.int x) (.int y)).map _ = _
  rw [cmpG_i, h3]
  rfl
theorem evOrF {a b : E} {k : Bool} {f g : Bool} (h1 : ev G a ρ = some (.bl false, f)) (h2 : ev G b ρ = some (.bl k, g)) : ev G (.or a b) ρ = some (.bl k, true) := by
  rw [ev_or, h1, h2]
theorem bit_val (x p : Nat) : Builtin.bitAnd ((x / 2 ^ p : Nat) : Int) 1 = ((if x.testBit p then 1 else 0 : Nat) : Int) := by
  rw [show (1 : Int) = ((1 : Nat) : Int) from rfl, and_n, Nat.and_one_is_mod, Nat.testBit_eq_decide_div_mod_eq]
  rcases Nat.mod_two_eq_zero_or_one (x / 2 ^ p) with h | h <;> simp [h]
/-- the state of a place -/
def stOf (f r p : Nat) : Nat := (if f.testBit p then 1 else 0) + 2 * (if r.testBit p then 1 else 0)
theorem evBit {i j : Nat} {x p : Nat} (h1 : ρ[i]? = some (some (nD x))) (h2 : ρ[j]? = some (some (nD p))) : ev G (.bin .BitAnd (.bin .RShift (.slot i) (.slot j)) (.con (.int 1))) ρ = some (nD (if x.testBit p then 1 else 0), true) := by
  refine ev_bin_of (x := nD (x / 2 ^ p)) (f := true) (ev_bin_of (evSl h1) (evSl h2) ?_) (evCon rfl) ?_
  · show (if decide ((0 : Int) ≤ (p : Int)) then some (D.int ((x : Int) / 2 ^ ((p : Int).toNat))) else none) = _
    rw [decide_eq_true (by omega)]
    show some (D.int ((x : Int) / 2 ^ p)) = some (D.int ((x / 2 ^ p : Nat) : Int))
    rw [Int.natCast_ediv, Int.natCast_pow]
    rfl
  · show some (D.int (Builtin.bitAnd ((x / 2 ^ p : Nat) : Int) 1)) = _
    rw [bit_val]
    rfl
structure SeqL (P : D) (ls : List (Nat × Nat)) : Prop where
  fr : frz P = P
  fz : P.fz = true
  seq : seqD P = some (ls.map lineD)
theorem seqL_l (ls : List (Nat × Nat)) : SeqL (.lst .fz (ls.map lineD)) ls := ⟨by show D.lst .fz (frzS _) = _; rw [frzS_line], rfl, rfl⟩
theorem evAnd {a b : E} {x y : Bool} {f g : Bool} (h1 : ev G a ρ = some (.bl x, f)) (h2 : ev G b ρ = some (.bl y, g)) : ev G (.and a b) ρ = some (.bl (x && y), true) := by
  rw [ev_and, h1, h2]
  cases x <;> rfl
theorem evNot {a : E} {x : Bool} {f : Bool} (h1 : ev G a ρ = some (.bl x, f)) : ev G (.not a) ρ = some (.bl (!x), true) := by rw [ev_not, h1]
/-- lines in order: each with its lesser place first -/
structure Lines (n : Nat) (ls : List (Nat × Nat)) : Prop where
  lt : ∀ p ∈ ls, p.1 < p.2 ∧ p.2 < n
  srt : ls.Pairwise fun p q => p.1 < q.1 ∨ (p.1 = q.1 ∧ p.2 < q.2)
def iP (p : Nat × Nat) : Int × Int := ((p.1 : Int), (p.2 : Int))
theorem srtP_lines {n : Nat} {ls : List (Nat × Nat)} (h : Lines n ls) : srtP (ls.map iP) = ls.map iP := by
  refine same_pairs (srtP_sorted _) ?_ fun x => mem_srtP
  rw [List.pairwise_map]
  refine h.srt.imp fun {p q} h => ?_
  show ((p.1 : Int) < (q.1 : Int)) ∨ (((p.1 : Int) = (q.1 : Int)) ∧ ((p.2 : Int) < (q.2 : Int)))
  omega
theorem adj_lt {n : Nat} {ls : List (Nat × Nat)} (h : Lines n ls) {a b : Nat} (k : Adj ls a b) : a < n ∧ b < n := by
  obtain ⟨p, hp, q⟩ := k
  have := h.lt p hp
  omega
theorem can_all : ∀ {ps : List PyData}, (∀ p ∈ ps, PyData.canLay0 p = true ∧ PyData.depth p ≤ 3) → PyData.canLayAll0 ps = true ∧ PyData.depthAll ps ≤ 3
  | [], _ => ⟨rfl, by show PyData.depthAll [] ≤ 3; decide⟩
  | p :: r, h => by
    obtain ⟨h1, h2⟩ := can_all (ps := r) fun q hq => h q (List.mem_cons_of_mem _ hq)
    obtain ⟨h3, h4⟩ := h p List.mem_cons_self
    unfold PyData.canLayAll0 PyData.depthAll
    refine ⟨by rw [h3, h1]; rfl, by omega⟩
theorem shaped_all {ps : List PyData} (h : ∀ p ∈ ps, PyData.canLay0 p = true ∧ PyData.depth p ≤ 3) : SeqAt.shaped (.list ps) = true ∧ SeqAt.shaped (.tuple ps) = true := by
  obtain ⟨h1, h2⟩ := can_all h
  have e1 : PyData.depth (.list ps) = PyData.depthAll ps + 1 := by simp only [PyData.depth]
  have e2 : PyData.depth (.tuple ps) = PyData.depthAll ps + 1 := by simp only [PyData.depth]
  have d1 : decide (PyData.depth (.list ps) ≤ 64) = true := decide_eq_true (by omega)
  have d2 : decide (PyData.depth (.tuple ps) ≤ 64) = true := decide_eq_true (by omega)
  unfold SeqAt.shaped
  rw [d1, d2]
  simp only [PyData.canLay0, h1, Bool.and_self, and_self]
theorem can_int (i : Int) : PyData.canLay0 (.int i) = true ∧ PyData.depth (.int i) ≤ 1 := ⟨rfl, by simp only [PyData.depth]; decide⟩
theorem toPyS_ints : ∀ ns : List Int, toPyS (ns.map D.int) = some (ns.map PyData.int)
  | [] => rfl
  | n :: r => by rw [List.map_cons, List.map_cons]; simp only [toPyS, toPy, toPyS_ints r]
def pP (p : Int × Int) : PyData := .tuple [.int p.1, .int p.2]
theorem toPyS_pairs : ∀ ps : List (Int × Int), toPyS (ps.map dP) = some (ps.map pP)
  | [] => rfl
  | p :: r => by rw [List.map_cons, List.map_cons]; simp only [toPyS, toPyS_pairs r, dP, toPy, pP, Option.map_some]
theorem can_pair (p : Int × Int) : PyData.canLay0 (pP p) = true ∧ PyData.depth (pP p) ≤ 2 := by
  have h := can_all (ps := [.int p.1, .int p.2]) fun q hq => by
    rcases List.mem_cons.mp hq with rfl | hq
    · exact ⟨(can_int _).1, by have := (can_int p.1).2; omega⟩
    · rw [List.mem_singleton.mp hq]
      exact ⟨(can_int _).1, by have := (can_int p.2).2; omega⟩
  have e : PyData.depth (pP p) = PyData.depthAll [.int p.1, .int p.2] + 1 := by unfold pP; simp only [PyData.depth]
  have e2 : PyData.depthAll [.int p.1, .int p.2] ≤ 1 := by
    unfold PyData.depthAll PyData.depthAll PyData.depthAll
    have := (can_int p.1).2
    have := (can_int p.2).2
    omega
  refine ⟨?_, by omega⟩
  unfold pP
  simp only [PyData.canLay0, h.1]
theorem in_pairs (x : Int × Int) (m : M) (ps : List (Int × Int)) : ∃ b, inD (dP x) (.lst m (ps.map dP)) = some b := by
  have h := (shaped_all (ps := ps.map pP) fun q hq => by
    obtain ⟨p, _, rfl⟩ := List.mem_map.mp hq
    exact ⟨(can_pair p).1, by have := (can_pair p).2; omega⟩).1
  have h2 : SeqAt.shaped (pP x) = true := (shaped_all (ps := [.int x.1, .int x.2]) fun q hq => by
    rcases List.mem_cons.mp hq with rfl | hq
    · exact ⟨(can_int _).1, by have := (can_int x.1).2; omega⟩
    · rw [List.mem_singleton.mp hq]
      exact ⟨(can_int _).1, by have := (can_int x.2).2; omega⟩).2
  have e : toPy (dP x) = some (pP x) := by simp only [dP, toPy, toPyS, Option.map_some, pP]
  simp only [inD, e, toPyS_pairs, h, h2, Bool.and_self, if_true]
  exact ⟨_, rfl⟩
theorem evAdd {a b : E} {x y : Int} {f g : Bool} (h1 : ev G a ρ = some (.int x, f)) (h2 : ev G b ρ = some (.int y, g)) : ev G (.bin .Add a b) ρ = some (.int (x + y), true) := ev_bin_of h1 h2 (by rw [binG_i]; rfl)
theorem evSub {a b : E} {x y : Int} {f g : Bool} (h1 : ev G a ρ = some (.int x, f)) (h2 : ev G b ρ = some (.int y, g)) : ev G (.bin .Sub a b) ρ = some (.int (x - y), true) := ev_bin_of h1 h2 (by rw [binG_i]; rfl)
theorem evMul {a b : E} {x y : Int} {f g : Bool} (h1 : ev G a ρ = some (.int x, f)) (h2 : ev G b ρ = some (.int y, g)) (h : mulOk x y = true) : ev G (.bin .Mult a b) ρ = some (.int (x * y), true) := ev_bin_of h1 h2 (by
  rw [binG_i]
  show (if mulOk x y || _ then some (D.int (x * y)) else none) = _
  rw [h]
  rfl)
theorem mul_l {x : Int} (y : Int) (h1 : -(2 ^ 64) < x) (h2 : x < 2 ^ 64) : mulOk x y = true := by
  unfold mulOk
  rw [decide_eq_true h1, decide_eq_true h2]
  rfl
theorem evMod {a b : E} {x y : Int} {f g : Bool} (h1 : ev G a ρ = some (.int x, f)) (h2 : ev G b ρ = some (.int y, g)) (h : 0 < y) : ev G (.bin .Mod a b) ρ = some (.int (x % y), true) := ev_bin_of h1 h2 (by
  rw [binG_i]
  show (if decide (0 < y) then some (D.int (x % y)) else none) = _
  rw [decide_eq_true h]
  rfl)
theorem evDiv2 {a b : E} {x y : Int} {f g : Bool} (h1 : ev G a ρ = some (.int x, f)) (h2 : ev G b ρ = some (.int y, g)) (h : 0 < y) (h3 : y < 1073741824) : ev G (.bin .FloorDiv a b) ρ = some (.int (x / y), true) := ev_bin_of h1 h2 (by
  rw [binG_i]
  show (if decide (0 < y) && (decide (y < 1073741824) || decide (y.natAbs.log2 < 9000)) then some (D.int (x / y)) else none) = _
  rw [decide_eq_true h, decide_eq_true h3]
  rfl)
theorem evAtI {a b : E} {m : M} {ns : List Int} {j : Int} {f g : Bool} (h1 : ev G a ρ = some (.lst m (ns.map D.int), f)) (h2 : ev G b ρ = some (.int j, g)) (h0 : 0 ≤ j) (hj : j < ns.length) : ev G (.idx a b) ρ = some (.int (ns.getD j.toNat 0), true) := by
  rw [ev_idx, h1, h2]
  show (at? (ns.map D.int) j).map (fun d => (d, d.fz)) = _
  have hl : j.toNat < ns.length := by omega
  rw [at_nat _ _ h0 (by rw [List.length_map]; exact hj), List.getElem?_map, List.getElem?_eq_getElem hl, List.getD_eq_getElem?_getD, List.getElem?_eq_getElem hl]
  rfl
theorem evsI_nil : evs G .nil ρ = some ([].map D.int, true) := by rw [evs_nil]; rfl
theorem evsI_cons {e : E} {r : Es} {x : Int} {ns : List Int} (h1 : ev G e ρ = some (.int x, true)) (h2 : evs G r ρ = some (ns.map D.int, true)) : evs G (.cons e r) ρ = some ((x :: ns).map D.int, true) := by
  rw [evs_cons, h1, h2]
  rfl
theorem evLst {es : Es} {ns : List Int} (h : evs G es ρ = some (ns.map D.int, true)) (hl : ns.length ≤ 1000) : ev G (.lst es) ρ = some (.lst .own (ns.map D.int), true) := by
  rw [ev_lst, h]
  show (if decide ((ns.map D.int).length ≤ most) then _ else _) = _
  rw [decide_eq_true (by rw [List.length_map]; unfold most; omega)]
  rfl
theorem evPair {a b : E} {x y : Int} (h1 : ev G a ρ = some (.int x, true)) (h2 : ev G b ρ = some (.int y, true)) : ev G (.tup (.cons a (.cons b .nil))) ρ = some (dP (x, y), true) := by
  rw [ev_tup, evs_cons, evs_cons, evs_nil, h1, h2]
  rfl
theorem evMin2 {a b : E} {x y : Int} {f g : Bool} (h1 : ev G a ρ = some (.int x, f)) (h2 : ev G b ρ = some (.int y, g)) : ev G (.blt .min2 (.cons a (.cons b .nil))) ρ = some (.int (if y < x then y else x), true) := by
  rw [ev_blt, evs_cons, evs_cons, evs_nil, h1, h2]
  rfl
theorem evLt {a b : E} {x y : Int} {f g : Bool} (h1 : ev G a ρ = some (.int x, f)) (h2 : ev G b ρ = some (.int y, g)) : ev G (.cmp .Lt a b) ρ = some (.bl (decide (x < y)), true) := evCmp h1 h2 rfl
theorem evGt {a b : E} {x y : Int} {f g : Bool} (h1 : ev G a ρ = some (.int x, f)) (h2 : ev G b ρ = some (.int y, g)) : ev G (.cmp .Gt a b) ρ = some (.bl (decide (y < x)), true) := evCmp h1 h2 rfl
theorem evIn {a b : E} {x : Int × Int} {m : M} {ps : List (Int × Int)} {f g : Bool} (h1 : ev G a ρ = some (dP x, f)) (h2 : ev G b ρ = some (.lst m (ps.map dP), g)) : ∃ k, ev G (.cmp .In a b) ρ = some (.bl k, true) := by
  obtain ⟨k, hk⟩ := in_pairs x m ps
  refine ⟨k, ?_⟩
  rw [ev_cmp, h1, h2]
  have : cmpG G .In (dP x) (.lst m (ps.map dP)) = some k := by
    show inD (dP x) (.lst m (ps.map dP)) = some k
    exact hk
  show (cmpG G .In (dP x) (.lst m (ps.map dP))).map _ = _
  rw [this]
  rfl
theorem rng_get {lo : Int} {n i : Nat} {d : D} (h : (rngD lo n)[i]? = some d) : i < n ∧ d = .int (lo + i) := by
  have hl := (List.getElem?_eq_some_iff.mp h).1
  rw [rngD_len] at hl
  rw [rngD_get _ _ _ hl] at h
  exact ⟨hl, (Option.some.inj h).symm⟩
theorem evI1 {e : E} {j : Int} {f : Bool} (h : ev G e ρ = some (.int j, f)) (h1 : 0 ≤ j) (h2 : j < 1000000) : evI G (.rng1 e) ρ = some (rngD 0 j.toNat) := by
  rw [evI_r1, h]
  show (if rngOk 0 j then some (rngD 0 j.toNat) else none) = _
  rw [if_pos (by unfold rngOk; simp; omega)]
theorem evI2 {a b : E} {i j : Int} {f g : Bool} (h : ev G a ρ = some (.int i, f)) (h' : ev G b ρ = some (.int j, g)) (h0 : -1000000 < i) (h1 : i < 1000000) (h2 : -1000000 < j) (h3 : j < 1000000) : evI G (.rng2 a b) ρ = some (rngD i (j - i).toNat) := by
  rw [evI_r2, h, h']
  show (if rngOk i j then some (rngD i (j - i).toNat) else none) = _
  rw [if_pos (by unfold rngOk; simp; omega)]
theorem getD_some {row : List Int} {i : Nat} (h : i < row.length) : row[i]? = some (row.getD i 0) := by
  rw [List.getD_eq_getElem?_getD, List.getElem?_eq_getElem h]
  rfl
theorem evCat {a b : E} {xs ys : List Int} {f g : Bool} (h1 : ev G a ρ = some (.lst .own (xs.map D.int), f)) (h2 : ev G b ρ = some (.lst .own (ys.map D.int), g)) (hl : xs.length + ys.length ≤ 1000) : ev G (.bin .Add a b) ρ = some (.lst .own ((xs ++ ys).map D.int), true) := ev_bin_of h1 h2 (by
  rw [binG_l]
  show (if decide (M.own ≠ .ro) && decide (M.own ≠ .ro) && fzs (xs.map D.int) && fzs (ys.map D.int) && decide ((xs.map D.int).length + (ys.map D.int).length ≤ most) then some (D.lst .own (xs.map D.int ++ ys.map D.int)) else none) = _
  rw [fzs_ints, fzs_ints, decide_eq_true (by rw [List.length_map, List.length_map]; unfold most; omega : (xs.map D.int).length + (ys.map D.int).length ≤ most), List.map_append]
  rfl)
theorem map_flat (xs : List Int) : ∀ k : Nat, ((List.replicate k xs).flatten).map D.int = (List.replicate k (xs.map D.int)).flatten
  | 0 => rfl
  | k + 1 => by rw [List.replicate_succ, List.flatten_cons, List.map_append, map_flat xs k, List.replicate_succ, List.flatten_cons]
theorem evRep {a b : E} {xs : List Int} {k : Nat} {f g : Bool} (h1 : ev G a ρ = some (.lst .own (xs.map D.int), f)) (h2 : ev G b ρ = some (.int (k : Int), g)) (hl : k ≤ 1000) (hm : xs.length * k ≤ 1000) : ev G (.bin .Mult a b) ρ = some (.lst .own (((List.replicate k xs).flatten).map D.int), true) := ev_bin_of h1 h2 (by
  rw [binG_l]
  show (if fzs (xs.map D.int) && decide ((0 : Int) ≤ k) && decide ((k : Int) ≤ most) && decide ((xs.map D.int).length * (k : Int).toNat ≤ most) then some (D.lst .own ((List.replicate (k : Int).toNat (xs.map D.int)).flatten)) else none) = _
  rw [fzs_ints, decide_eq_true (by omega : (0 : Int) ≤ (k : Int)), decide_eq_true (by unfold most; omega : (k : Int) ≤ (most : Nat)), decide_eq_true (by rw [List.length_map, Int.toNat_natCast]; unfold most; omega : (xs.map D.int).length * (k : Int).toNat ≤ most), map_flat]
  rfl)
theorem evInt {a : E} {x : Int} {f : Bool} (h : ev G a ρ = some (.int x, f)) : ev G (.blt .int (.cons a .nil)) ρ = some (.int x, true) := by
  rw [ev_blt, evs_cons, evs_nil, h]
  rfl
theorem evIntB {a : E} {x : Bool} {f : Bool} (h : ev G a ρ = some (.bl x, f)) : ev G (.blt .int (.cons a .nil)) ρ = some (.int (if x then 1 else 0), true) := by
  rw [ev_blt, evs_cons, evs_nil, h]
  rfl
theorem digs_get {ss row : List Int} {i : Nat} {s : Int} (d : Digs ss row ss.length) (h : ss[i]? = some s) : 0 ≤ row.getD i 0 ∧ row.getD i 0 < s := by
  have hl := (List.getElem?_eq_some_iff.mp h).1
  exact d.dig i s _ h (getD_some (by rw [d.len]; exact hl))
theorem evCall2 {f : Nat} {a b : E} {x y d : D} (h1 : ev G a ρ = some (x, true)) (h2 : ev G b ρ = some (y, true)) (hc : G.call f [frz x, frz y] = some d) : ev G (.call f (.cons a (.cons b .nil)) []) ρ = some (d, true) := by
  rw [ev_call, evs_cons, evs_cons, evs_nil, h1, h2]
  show (if List.all [] D.dfl then (G.call f ([frz x, frz y] ++ [])).map (·, true) else none) = _
  rw [List.append_nil, hc]
  rfl
theorem evCall1 {f : Nat} {a : E} {x d : D} (h1 : ev G a ρ = some (x, true)) (hc : G.call f [frz x] = some d) : ev G (.call f (.cons a .nil) []) ρ = some (d, true) := by
  rw [ev_call, evs_cons, evs_nil, h1]
  show (if List.all [] D.dfl then (G.call f ([frz x] ++ [])).map (·, true) else none) = _
  rw [List.append_nil, hc]
  rfl
theorem evCall3 {f : Nat} {a b c : E} {x y z d : D} (h1 : ev G a ρ = some (x, true)) (h2 : ev G b ρ = some (y, true)) (h3 : ev G c ρ = some (z, true)) (hc : G.call f [frz x, frz y, frz z] = some d) : ev G (.call f (.cons a (.cons b (.cons c .nil))) []) ρ = some (d, true) := by
  rw [ev_call, evs_cons, evs_cons, evs_cons, evs_nil, h1, h2, h3]
  show (if List.all [] D.dfl then (G.call f ([frz x, frz y, frz z] ++ [])).map (·, true) else none) = _
  rw [List.append_nil, hc]
  rfl
theorem evLits : ∀ {es : Es} {ns : List Int}, evs G es ρ = some (ns.map D.int, true) → ns.length ≤ 1000 → ev G (.lst es) ρ = some (.lst .own (ns.map D.int), true) := fun h hl => evLst h hl
theorem nsD_ints (l : List Nat) : nsD l = .tup ((l.map fun k : Nat => (k : Int)).map D.int) := by unfold nsD; rw [List.map_map]; rfl
theorem eqD_ns (l : List Nat) : eqD (nsD l) (nsD l) = some true := by
  have h := (shaped_all (ps := ((l.map fun k : Nat => (k : Int)).map PyData.int)) fun p hp => by
    obtain ⟨i, _, rfl⟩ := List.mem_map.mp hp
    exact ⟨(can_int i).1, by have := (can_int i).2; omega⟩).2
  have ev : ∀ is : List Int, PyData.eqvAll (is.map PyData.int) (is.map PyData.int) = true := fun is => by
    induction is with
    | nil => rfl
    | cons i r ih =>
      rw [List.map_cons]
      unfold PyData.eqvAll
      rw [ih]
      simp [PyData.eqv]
  rw [nsD_ints]
  simp only [eqD, toPy, toPyS_ints, Option.map_some, h, Bool.and_self, if_true]
  show some (PyData.eqvAll _ _) = some true
  rw [ev]
theorem eqD_li (m m' : M) (is : List Int) : eqD (.lst m (is.map D.int)) (.lst m' (is.map D.int)) = some true := by
  have h := (shaped_all (ps := (is.map PyData.int)) fun p hp => by
    obtain ⟨i, _, rfl⟩ := List.mem_map.mp hp
    exact ⟨(can_int i).1, by have := (can_int i).2; omega⟩).1
  have ev : ∀ is : List Int, PyData.eqvAll (is.map PyData.int) (is.map PyData.int) = true := fun is => by
    induction is with
    | nil => rfl
    | cons i r ih =>
      rw [List.map_cons]
      unfold PyData.eqvAll
      rw [ih]
      simp [PyData.eqv]
  simp only [eqD, toPy, toPyS_ints, Option.map_some, h, Bool.and_self, if_true]
  show some (PyData.eqvAll _ _) = some true
  rw [ev]
theorem eqD_lines (ls : List (Nat × Nat)) : eqD (.tup (ls.map lineD)) (.tup (ls.map lineD)) = some true := by
  have e : ls.map lineD = (ls.map iP).map dP := by rw [List.map_map]; rfl
  have h := (shaped_all (ps := ((ls.map iP).map pP)) fun p hp => by
    obtain ⟨i, _, rfl⟩ := List.mem_map.mp hp
    exact ⟨(can_pair i).1, by have := (can_pair i).2; omega⟩).2
  have ev : ∀ is : List (Int × Int), PyData.eqvAll (is.map pP) (is.map pP) = true := fun is => by
    induction is with
    | nil => rfl
    | cons i r ih =>
      rw [List.map_cons]
      unfold PyData.eqvAll
      rw [ih]
      simp [pP, PyData.eqv, PyData.eqvAll]
  rw [e]
  simp only [eqD, toPy, toPyS_pairs, Option.map_some, h, Bool.and_self, if_true]
  show some (PyData.eqvAll _ _) = some true
  rw [ev]
theorem in_ints (x : Int) (m : M) (is : List Int) : inD (.int x) (.lst m (is.map D.int)) = some (decide (x ∈ is)) := by
  have h := (shaped_all (ps := is.map PyData.int) fun p hp => by
    obtain ⟨i, _, rfl⟩ := List.mem_map.mp hp
    exact ⟨(can_int i).1, by have := (can_int i).2; omega⟩).1
  have h2 : SeqAt.shaped (.int x) = true := by
    unfold SeqAt.shaped
    rw [(can_int x).1, decide_eq_true (by have := (can_int x).2; omega)]
    rfl
  simp only [inD, toPy, toPyS_ints, h, h2, Bool.and_self, if_true]
  congr 1
  induction is with
  | nil => rfl
  | cons i r ih =>
    rw [List.map_cons, List.any_cons]
    have e : PyData.eqv (.int i) (.int x) = decide (x = i) := by
      simp only [PyData.eqv]
      by_cases c : x = i
      · subst c; simp
      · have : ¬ i = x := fun z => c z.symm
        simp [c, this]
    rw [e]
    have ih' := ih (by
      have := (shaped_all (ps := r.map PyData.int) fun p hp => by
        obtain ⟨i, _, rfl⟩ := List.mem_map.mp hp
        exact ⟨(can_int i).1, by have := (can_int i).2; omega⟩).1
      exact this)
    rw [ih']
    by_cases c : x = i
    · subst c; simp
    · simp [c]
end
end Z

namespace P5
open PySem PySem.Spec PyProof.Rows L2 Z
def top (i : Nat) : Stmt := PySem.Challenge.pw_firerest_k05_one_beat.main.body.getD i (.Pass ⟨0, 0, 0, 0⟩)
abbrev s0 : Stmt := top 1
def n0 : List Str := ["mask", "found", "lowest"]
def q0 : List Str := ["mask"]
/-- places_of -/
def b0 : Ss := .cons (.asg (.name 1) (.lst (.nil))) (.cons (.while_ (.cmp .NotEq (.slot 0) (.con (.int 0))) (.cons (.asg (.name 2) (.bin .BitAnd (.slot 0) (.un .USub (.slot 0)))) (.cons (.app 1 (.bin .Sub (.blt .bitlen (.cons (.slot 2) .nil)) (.con (.int 1)))) (.cons (.asg (.name 0) (.bin .BitXor (.slot 0) (.slot 2))) (.nil))))) (.cons (.ret (.blt .tuple (.cons (.slot 1) (.nil)))) (.nil)))
def f0 : Z.Def := ⟨1, 3, b0⟩
abbrev s1 : Stmt := top 2
def n1 : List Str := ["size", "lines", "near", "a", "b", "_"]
def q1 : List Str := ["size", "lines"]
/-- near_masks -/
def b1 : Ss := .cons (.asg (.name 2) (.lc [5] (.con (.int 0)) (.name 5) (.rng1 (.slot 0)) (.nil))) (.cons (.for_ (.tup [.name 3, .name 4]) (.lst (.slot 1)) (.cons (.sub 2 (.slot 3) (.bin .BitOr (.idx (.slot 2) (.slot 3)) (.bin .LShift (.con (.int 1)) (.slot 4)))) (.cons (.sub 2 (.slot 4) (.bin .BitOr (.idx (.slot 2) (.slot 4)) (.bin .LShift (.con (.int 1)) (.slot 3)))) (.nil)))) (.cons (.ret (.blt .tuple (.cons (.slot 2) (.nil)))) (.nil)))
def f1 : Z.Def := ⟨2, 6, b1⟩
abbrev s2 : Stmt := top 3
def n2 : List Str := ["near", "mask", "found", "place"]
def q2 : List Str := ["near", "mask"]
/-- spread -/
def b2 : Ss := .cons (.asg (.name 2) (.con (.int 0))) (.cons (.for_ (.name 3) (.lst (.call 0 (.cons (.slot 1) (.nil)) [])) (.cons (.asg (.name 2) (.bin .BitOr (.slot 2) (.idx (.slot 0) (.slot 3)))) (.nil))) (.cons (.ret (.slot 2)) (.nil)))
def f2 : Z.Def := ⟨2, 4, b2⟩
abbrev s3 : Stmt := inClass (top 10) 0
def n3 : List Str := ["self", "size", "lines", "mask", "a", "b"]
def q3 : List Str := ["self", "size", "lines"]
/-- Web.__init__ -/
def b3 : Ss := .cons (.drop (.call 5 (.cons (.slot 1) (.cons (.slot 2) (.nil))) [])) (.cons (.fld 0 0 (.slot 1)) (.cons (.fld 0 1 (.blt .tuple (.cons (.blt .setsort (.cons (.lc [4, 5] (.tup (.cons (.blt .min2 (.cons (.slot 4) (.cons (.slot 5) (.nil)))) (.cons (.blt .max2 (.cons (.slot 4) (.cons (.slot 5) (.nil)))) (.nil)))) (.tup [.name 4, .name 5]) (.lst (.slot 2)) (.nil)) .nil)) (.nil)))) (.cons (.fld 0 2 (.call 1 (.cons (.slot 1) (.cons (.fld (.slot 0) 1) (.nil))) [])) (.cons (.fld 0 3 (.blt .tuple (.cons (.lc [3] (.call 0 (.cons (.slot 3) (.nil)) []) (.name 3) (.lst (.fld (.slot 0) 2)) (.nil)) (.nil)))) (.nil)))))
def f3 : Z.Def := ⟨3, 6, b3⟩
abbrev s4 : Stmt := inClass (top 10) 6
def n4 : List Str := ["self", "other"]
def q4 : List Str := ["self", "other"]
/-- Web.__eq__ -/
def b4 : Ss := .cons (.ret (.and (.isi (.slot 1) (.cls 0)) (.and (.cmp .Eq (.fld (.slot 0) 0) (.fld (.slot 1) 0)) (.cmp .Eq (.fld (.slot 0) 1) (.fld (.slot 1) 1))))) (.nil)
def f4 : Z.Def := ⟨2, 2, b4⟩
abbrev s5 : Stmt := top 11
def n5 : List Str := ["size", "lines", "index", "a", "b"]
def q5 : List Str := ["size", "lines"]
/-- check_lines -/
def b5 : Ss := .cons (.for_ (.tup [.name 2, .tup [.name 3, .name 4]]) (.enum (.slot 1)) (.cons (.ite (.or (.not (.and (.chain .LtE .Lt (.con (.int 0)) (.slot 3) (.slot 0)) (.chain .LtE .Lt (.con (.int 0)) (.slot 4) (.slot 0)))) (.cmp .Eq (.slot 3) (.slot 4))) (.cons (.never) (.nil)) (.nil)) (.nil))) (.nil)
def f5 : Z.Def := ⟨2, 5, b5⟩
abbrev s6 : Stmt := inClass (top 14) 0
def n6 : List Str := ["self", "web", "picture"]
def q6 : List Str := ["self", "web", "picture"]
/-- Scene.__init__ -/
def b6 : Ss := .cons (.drop (.call 8 (.cons (.fld (.slot 1) 0) (.cons (.slot 2) (.nil))) [])) (.cons (.fld 0 4 (.slot 1)) (.cons (.fld 0 5 (.blt .tuple (.cons (.slot 2) (.nil)))) (.nil)))
def f6 : Z.Def := ⟨3, 3, b6⟩
abbrev s7 : Stmt := inClass (top 14) 1
def n7 : List Str := ["self", "other"]
def q7 : List Str := ["self", "other"]
/-- Scene.__eq__ -/
def b7 : Ss := .cons (.ret (.and (.isi (.slot 1) (.cls 1)) (.and (.cmp .Eq (.fld (.slot 0) 4) (.fld (.slot 1) 4)) (.cmp .Eq (.fld (.slot 0) 5) (.fld (.slot 1) 5))))) (.nil)
def f7 : Z.Def := ⟨2, 2, b7⟩
abbrev s8 : Stmt := top 15
def n8 : List Str := ["size", "picture", "index", "state"]
def q8 : List Str := ["size", "picture"]
/-- check_picture -/
def b8 : Ss := .cons (.for_ (.tup [.name 2, .name 3]) (.enum (.slot 1)) (.cons (.ite (.or (.cmp .GtE (.slot 2) (.slot 0)) (.cmp .NotIn (.slot 3) (.tup (.cons (.con (.int 0)) (.cons (.con (.int 1)) (.cons (.con (.int 2)) (.nil))))))) (.cons (.never) (.nil)) (.nil)) (.nil))) (.cons (.ite (.cmp .Lt (.blt .len (.cons (.slot 1) (.nil))) (.slot 0)) (.cons (.never) (.nil)) (.nil)) (.nil))
def f8 : Z.Def := ⟨2, 4, b8⟩
abbrev s9 : Stmt := top 17
def n9 : List Str := ["scene", "fired", "resting", "place", "state"]
def q9 : List Str := ["scene"]
/-- masks_of_scene -/
def b9 : Ss := .cons (.asg (.name 1) (.con (.int 0))) (.cons (.asg (.name 2) (.con (.int 0))) (.cons (.for_ (.tup [.name 3, .name 4]) (.enum (.fld (.slot 0) 5)) (.cons (.ite (.cmp .Eq (.slot 4) (.con (.int 1))) (.cons (.asg (.name 1) (.bin .BitOr (.slot 1) (.bin .LShift (.con (.int 1)) (.slot 3)))) (.nil)) (.cons (.ite (.cmp .Eq (.slot 4) (.con (.int 2))) (.cons (.asg (.name 2) (.bin .BitOr (.slot 2) (.bin .LShift (.con (.int 1)) (.slot 3)))) (.nil)) (.nil)) (.nil))) (.nil))) (.cons (.ret (.tup (.cons (.slot 1) (.cons (.slot 2) (.nil))))) (.nil))))
def f9 : Z.Def := ⟨1, 5, b9⟩
abbrev s10 : Stmt := top 18
def n10 : List Str := ["web", "masks", "states", "fired", "resting", "place"]
def q10 : List Str := ["web", "masks"]
/-- scene_of_masks -/
def b10 : Ss := .cons (.asg (.tup [.name 3, .name 4]) (.slot 1)) (.cons (.asg (.name 2) (.lc [5] (.bin .Add (.bin .BitAnd (.bin .RShift (.slot 3) (.slot 5)) (.con (.int 1))) (.bin .Mult (.con (.int 2)) (.bin .BitAnd (.bin .RShift (.slot 4) (.slot 5)) (.con (.int 1))))) (.name 5) (.rng1 (.fld (.slot 0) 0)) (.nil))) (.cons (.ret (.mk 1 (.cons (.slot 0) (.cons (.slot 2) (.nil))) [])) (.nil)))
def f10 : Z.Def := ⟨2, 6, b10⟩
abbrev s11 : Stmt := top 19
def n11 : List Str := ["web", "poked", "mask", "place"]
def q11 : List Str := ["web", "poked"]
/-- poked_mask -/
def b11 : Ss := .cons (.asg (.name 2) (.con (.int 0))) (.cons (.for_ (.name 3) (.lst (.slot 1)) (.cons (.ite (.chain .LtE .Lt (.con (.int 0)) (.slot 3) (.fld (.slot 0) 0)) (.cons (.asg (.name 2) (.bin .BitOr (.slot 2) (.bin .LShift (.con (.int 1)) (.slot 3)))) (.nil)) (.nil)) (.nil))) (.cons (.ret (.slot 2)) (.nil)))
def f11 : Z.Def := ⟨2, 4, b11⟩
abbrev s12 : Stmt := top 20
def n12 : List Str := ["near", "masks", "poked", "reached", "fired", "resting"]
def q12 : List Str := ["near", "masks", "poked"]
/-- next_masks -/
def b12 : Ss := .cons (.asg (.tup [.name 4, .name 5]) (.slot 1)) (.cons (.asg (.name 3) (.bin .BitOr (.call 2 (.cons (.slot 0) (.cons (.slot 4) (.nil))) []) (.slot 2))) (.cons (.ret (.tup (.cons (.bin .BitAnd (.slot 3) (.un .Invert (.bin .BitOr (.slot 4) (.slot 5)))) (.cons (.slot 4) (.nil))))) (.nil)))
def f12 : Z.Def := ⟨3, 6, b12⟩
abbrev s13 : Stmt := top 22
def n13 : List Str := ["scene", "poked", "web", "masks"]
def q13 : List Str := ["scene", "poked"]
/-- step -/
def b13 : Ss := .cons (.asg (.name 2) (.fld (.slot 0) 4)) (.cons (.asg (.name 3) (.call 12 (.cons (.fld (.slot 2) 2) (.cons (.call 9 (.cons (.slot 0) (.nil)) []) (.cons (.call 11 (.cons (.slot 2) (.cons (.slot 1) (.nil))) []) (.nil)))) [])) (.cons (.ret (.call 10 (.cons (.slot 2) (.cons (.slot 3) (.nil))) [])) (.nil)))
def f13 : Z.Def := ⟨2, 4, b13⟩
abbrev s14 : Stmt := top 24
def n14 : List Str := ["value"]
def q14 : List Str := ["value"]
/-- _law_whole -/
def b14 : Ss := .cons (.ret (.and (.isi (.slot 0) .int) (.not (.isi (.slot 0) .bool)))) (.nil)
def f14 : Z.Def := ⟨1, 1, b14⟩
abbrev s15 : Stmt := top 25
def n15 : List Str := ["script", "k", "seed", "cell"]
def q15 : List Str := ["script", "k"]
/-- _law_cell -/
def b15 : Ss := .cons (.ite (.cmp .Lt (.slot 1) (.blt .len (.cons (.slot 0) (.nil)))) (.cons (.ret (.idx (.slot 0) (.slot 1))) (.nil)) (.nil)) (.cons (.asg (.name 2) (.con (.int 17))) (.cons (.for_ (.name 3) (.lst (.slot 0)) (.cons (.asg (.name 2) (.bin .Mod (.blt .int (.cons (.bin .Add (.bin .Mult (.slot 2) (.con (.int 31))) (.bin .Mod (.blt .int (.cons (.slot 3) (.nil))) (.con (.int 1000003)))) (.nil))) (.con (.int 1000003)))) (.nil))) (.cons (.ret (.bin .Mod (.blt .int (.cons (.bin .Mult (.bin .Mult (.bin .Add (.slot 2) (.con (.int 7))) (.bin .Add (.slot 1) (.con (.int 3)))) (.con (.int 69621))) (.nil))) (.con (.int 2147483647)))) (.nil))))
def f15 : Z.Def := ⟨2, 4, b15⟩
abbrev s16 : Stmt := top 26
def n16 : List Str := ["cell", "sizes", "row", "rest", "seed", "k", "size", "twice"]
def q16 : List Str := ["cell", "sizes"]
/-- _law_digits -/
def b16 : Ss := .cons (.asg (.name 2) (.lst (.nil))) (.cons (.asg (.name 3) (.blt .int (.cons (.slot 0) (.nil)))) (.cons (.ite (.cmp .GtE (.slot 3) (.bin .Pow (.con (.int 10)) (.con (.int 18)))) (.cons (.asg (.name 3) (.bin .Sub (.slot 3) (.bin .Pow (.con (.int 10)) (.con (.int 18))))) (.cons (.for_ (.name 6) (.lst (.slot 1)) (.cons (.app 2 (.bin .Mod (.blt .int (.cons (.slot 3) (.nil))) (.slot 6))) (.cons (.asg (.name 3) (.bin .FloorDiv (.blt .int (.cons (.slot 3) (.nil))) (.slot 6))) (.nil)))) (.cons (.ret (.slot 2)) (.nil)))) (.nil)) (.cons (.asg (.name 4) (.bin .Mod (.blt .int (.cons (.slot 3) (.nil))) (.con (.int 2147483629)))) (.cons (.for_ (.name 5) (.rng1 (.blt .len (.cons (.slot 1) (.nil)))) (.cons (.asg (.name 4) (.bin .Mod (.blt .int (.cons (.bin .Add (.bin .Add (.bin .Mult (.slot 4) (.con (.int 48271))) (.bin .Mult (.con (.int 974711)) (.slot 5))) (.con (.int 12345))) (.nil))) (.con (.int 2147483647)))) (.cons (.asg (.name 7) (.bin .Mod (.blt .int (.cons (.bin .Mult (.slot 4) (.bin .Add (.bin .FloorDiv (.slot 4) (.con (.int 65537))) (.con (.int 3)))) (.nil))) (.con (.int 2147483629)))) (.cons (.app 2 (.bin .Mod (.bin .FloorDiv (.slot 7) (.con (.int 19))) (.idx (.slot 1) (.slot 5)))) (.nil))))) (.cons (.ret (.slot 2)) (.nil))))))
def f16 : Z.Def := ⟨2, 8, b16⟩
abbrev s17 : Stmt := top 27
def n17 : List Str := ["row", "most", "size", "known", "k", "lines", "a", "mate", "b"]
def q17 : List Str := ["row", "most"]
/-- _law_web -/
def b17 : Ss := .cons (.asg (.name 2) (.blt .min2 (.cons (.slot 1) (.cons (.idx (.lst (.cons (.con (.int 5)) (.cons (.con (.int 4)) (.cons (.con (.int 6)) (.cons (.con (.int 3)) (.cons (.con (.int 5)) (.cons (.con (.int 7)) (.cons (.con (.int 4)) (.cons (.con (.int 6)) (.cons (.con (.int 2)) (.cons (.con (.int 5)) (.cons (.con (.int 1)) (.cons (.con (.int 6)) (.nil)))))))))))))) (.idx (.slot 0) (.con (.int 0)))) (.nil))))) (.cons (.asg (.name 3) (.lst (.nil))) (.cons (.for_ (.name 4) (.rng2 (.con (.int 1)) (.slot 2)) (.cons (.asg (.name 7) (.idx (.lst (.cons (.bin .Sub (.slot 4) (.con (.int 1))) (.cons (.bin .Sub (.slot 4) (.con (.int 1))) (.cons (.bin .Sub (.slot 4) (.con (.int 1))) (.cons (.con (.int 0)) (.cons (.bin .FloorDiv (.slot 4) (.con (.int 2))) (.cons (.con (.int 0)) (.nil)))))))) (.idx (.slot 0) (.bin .Mult (.con (.int 2)) (.slot 4))))) (.cons (.ite (.cmp .Lt (.idx (.slot 0) (.con (.int 13))) (.con (.int 4))) (.cons (.asg (.name 7) (.bin .Sub (.slot 4) (.con (.int 1)))) (.nil)) (.nil)) (.cons (.ite (.cmp .Lt (.idx (.slot 0) (.bin .Sub (.bin .Mult (.con (.int 2)) (.slot 4)) (.con (.int 1)))) (.con (.int 19))) (.cons (.app 3 (.tup (.cons (.slot 7) (.cons (.slot 4) (.nil))))) (.nil)) (.nil)) (.nil))))) (.cons (.ite (.and (.cmp .Gt (.slot 2) (.con (.int 2))) (.cmp .Lt (.idx (.slot 0) (.con (.int 13))) (.con (.int 6)))) (.cons (.app 3 (.tup (.cons (.con (.int 0)) (.cons (.bin .Sub (.slot 2) (.con (.int 1))) (.nil))))) (.nil)) (.nil)) (.cons (.for_ (.name 4) (.rng1 (.con (.int 3))) (.cons (.asg (.name 6) (.bin .Mod (.idx (.slot 0) (.bin .Add (.con (.int 14)) (.bin .Mult (.con (.int 2)) (.slot 4)))) (.slot 2))) (.cons (.asg (.name 8) (.bin .Mod (.idx (.slot 0) (.bin .Add (.con (.int 15)) (.bin .Mult (.con (.int 2)) (.slot 4)))) (.slot 2))) (.cons (.ite (.and (.cmp .Lt (.slot 6) (.slot 8)) (.cmp .Gt (.idx (.slot 0) (.bin .Add (.con (.int 15)) (.bin .Mult (.con (.int 2)) (.slot 4)))) (.con (.int 2)))) (.cons (.app 3 (.tup (.cons (.slot 6) (.cons (.slot 8) (.nil))))) (.nil)) (.nil)) (.nil))))) (.cons (.asg (.name 5) (.lst (.nil))) (.cons (.for_ (.name 6) (.rng1 (.slot 2)) (.cons (.for_ (.name 8) (.rng2 (.bin .Add (.slot 6) (.con (.int 1))) (.slot 2)) (.cons (.ite (.cmp .In (.tup (.cons (.slot 6) (.cons (.slot 8) (.nil)))) (.slot 3)) (.cons (.app 5 (.tup (.cons (.slot 6) (.cons (.slot 8) (.nil))))) (.nil)) (.nil)) (.nil))) (.nil))) (.cons (.ret (.lst (.cons (.slot 2) (.cons (.slot 5) (.nil))))) (.nil))))))))
def f17 : Z.Def := ⟨2, 9, b17⟩
abbrev s18 : Stmt := top 28
def n18 : List Str := ["row", "size", "k"]
def q18 : List Str := ["row", "size"]
/-- _law_picture -/
def b18 : Ss := .cons (.ite (.and (.cmp .GtE (.idx (.slot 0) (.con (.int 0))) (.con (.int 4))) (.cmp .LtE (.idx (.slot 0) (.con (.int 0))) (.con (.int 7)))) (.cons (.ret (.blt .tuple (.cons (.lc [2] (.bin .Mod (.blt .int (.cons (.bin .Add (.slot 2) (.idx (.slot 0) (.con (.int 1)))) (.nil))) (.con (.int 3))) (.name 2) (.rng1 (.slot 1)) (.nil)) (.nil)))) (.nil)) (.nil)) (.cons (.ite (.cmp .Eq (.idx (.slot 0) (.con (.int 0))) (.con (.int 8))) (.cons (.ret (.blt .tuple (.cons (.lc [2] (.bin .Mult (.bin .Mod (.blt .int (.cons (.bin .Add (.slot 2) (.idx (.slot 0) (.con (.int 1)))) (.nil))) (.con (.int 3))) (.blt .int (.cons (.cmp .NotEq (.slot 2) (.bin .Add (.idx (.slot 0) (.con (.int 2))) (.con (.int 1)))) (.nil)))) (.name 2) (.rng1 (.slot 1)) (.nil)) (.nil)))) (.nil)) (.nil)) (.cons (.ite (.cmp .Eq (.idx (.slot 0) (.con (.int 0))) (.con (.int 9))) (.cons (.ret (.blt .tuple (.cons (.lc [2] (.blt .int (.cons (.cmp .Eq (.slot 2) (.idx (.slot 0) (.con (.int 1)))) (.nil))) (.name 2) (.rng1 (.slot 1)) (.nil)) (.nil)))) (.nil)) (.nil)) (.cons (.ret (.blt .tuple (.cons (.lc [2] (.idx (.slot 0) (.bin .Add (.con (.int 2)) (.slot 2))) (.name 2) (.rng1 (.slot 1)) (.nil)) (.nil)))) (.nil))))
def f18 : Z.Def := ⟨2, 3, b18⟩
abbrev s19 : Stmt := top 29
def n19 : List Str := ["script", "at", "most", "web", "picture"]
def q19 : List Str := ["script", "at", "most"]
/-- _law_scene -/
def b19 : Ss := .cons (.asg (.name 3) (.call 17 (.cons (.call 16 (.cons (.call 15 (.cons (.slot 0) (.cons (.slot 1) (.nil))) []) (.cons (.bin .Add (.bin .Add (.bin .Add (.lst (.cons (.con (.int 12)) (.nil))) (.bin .Mult (.lst (.cons (.con (.int 20)) (.cons (.con (.int 6)) (.nil)))) (.con (.int 6)))) (.lst (.cons (.con (.int 8)) (.nil)))) (.bin .Mult (.lst (.cons (.con (.int 8)) (.cons (.con (.int 8)) (.nil)))) (.con (.int 3)))) (.nil))) []) (.cons (.slot 2) (.nil))) [])) (.cons (.asg (.name 4) (.call 18 (.cons (.call 16 (.cons (.call 15 (.cons (.slot 0) (.cons (.bin .Add (.slot 1) (.con (.int 1))) (.nil))) []) (.cons (.bin .Add (.lst (.cons (.con (.int 10)) (.cons (.con (.int 3)) (.nil)))) (.bin .Mult (.lst (.cons (.con (.int 3)) (.nil))) (.con (.int 7)))) (.nil))) []) (.cons (.keep (.idx (.slot 3) (.con (.int 0)))) (.nil))) [])) (.cons (.ret (.lst (.cons (.keep (.idx (.slot 3) (.con (.int 0)))) (.cons (.keep (.idx (.slot 3) (.con (.int 1)))) (.cons (.slot 4) (.nil)))))) (.nil)))
def f19 : Z.Def := ⟨3, 5, b19⟩
abbrev s20 : Stmt := top 30
def n20 : List Str := ["size", "lines", "near", "line", "k", "row"]
def q20 : List Str := ["size", "lines"]
/-- _law_near -/
def b20 : Ss := .cons (.asg (.name 2) (.lc [4] (.lst (.nil)) (.name 4) (.rng1 (.slot 0)) (.nil))) (.cons (.for_ (.name 3) (.lst (.slot 1)) (.cons (.app2 2 (.idx (.slot 3) (.con (.int 0))) (.idx (.slot 3) (.con (.int 1)))) (.cons (.app2 2 (.idx (.slot 3) (.con (.int 1))) (.idx (.slot 3) (.con (.int 0)))) (.nil)))) (.cons (.ret (.lc [5] (.blt .sorted (.cons (.slot 5) (.nil))) (.name 5) (.lst (.slot 2)) (.nil))) (.nil)))
def f20 : Z.Def := ⟨2, 6, b20⟩
abbrev s21 : Stmt := top 31
def n21 : List Str := ["near", "picture", "poked", "later", "place", "state", "heard", "other"]
def q21 : List Str := ["near", "picture", "poked"]
/-- _law_step -/
def b21 : Ss := .cons (.asg (.name 3) (.lst (.nil))) (.cons (.for_ (.name 4) (.rng1 (.blt .len (.cons (.slot 1) (.nil)))) (.cons (.asg (.name 5) (.idx (.slot 1) (.slot 4))) (.cons (.ite (.cmp .Gt (.slot 5) (.con (.int 0))) (.cons (.app 3 (.idx (.lst (.cons (.con (.int 0)) (.cons (.con (.int 2)) (.cons (.con (.int 0)) (.nil))))) (.slot 5))) (.nil)) (.cons (.asg (.name 6) (.lc [7] (.slot 7) (.name 7) (.lst (.idx (.slot 0) (.slot 4))) (.cons (.cmp .Eq (.idx (.slot 1) (.slot 7)) (.con (.int 1))) .nil))) (.cons (.app 3 (.blt .int (.cons (.or (.cmp .Gt (.blt .len (.cons (.slot 6) (.nil))) (.con (.int 0))) (.cmp .In (.slot 4) (.slot 2))) (.nil)))) (.nil)))) (.nil)))) (.cons (.ret (.blt .tuple (.cons (.slot 3) (.nil)))) (.nil)))
def f21 : Z.Def := ⟨3, 8, b21⟩
abbrev s22 : Stmt := top 32
def n22 : List Str := ["value", "many", "x"]
def q22 : List Str := ["value", "many"]
/-- _law_row -/
def b22 : Ss := .cons (.ret (.and (.isi (.slot 0) .tuple) (.and (.cmp .Eq (.blt .len (.cons (.slot 0) (.nil))) (.slot 1)) (.cmp .Eq (.blt .len (.cons (.lc [2] (.slot 2) (.name 2) (.lst (.slot 0)) (.cons (.not (.call 14 (.cons (.slot 2) (.nil)) [])) .nil)) (.nil))) (.con (.int 0)))))) (.nil)
def f22 : Z.Def := ⟨2, 3, b22⟩
abbrev s23 : Stmt := top 33
def n23 : List Str := ["scene", "web", "picture"]
def q23 : List Str := ["scene", "web", "picture"]
/-- _law_is_scene -/
def b23 : Ss := .cons (.ite (.or (.not (.isi (.slot 0) (.cls 1))) (.not (.cmp .Eq (.fld (.slot 0) 4) (.slot 1)))) (.cons (.ret (.con (.bl false))) (.nil)) (.nil)) (.cons (.ret (.and (.call 22 (.cons (.fld (.slot 0) 5) (.cons (.blt .len (.cons (.slot 2) (.nil))) (.nil))) []) (.cmp .Eq (.fld (.slot 0) 5) (.blt .tuple (.cons (.slot 2) (.nil)))))) (.nil))
def f23 : Z.Def := ⟨3, 3, b23⟩
abbrev s24 : Stmt := top 34
def n24 : List Str := ["script", "drawn", "other", "row", "size", "lines", "picture", "near", "web", "scene", "poked", "handed", "web_two", "two", "everyone", "line", "place", "k", "state"]
def q24 : List Str := ["script"]
/-- law -/
def b24 : Ss := .cons (.asg (.name 1) (.call 19 (.cons (.slot 0) (.cons (.con (.int 0)) (.cons (.con (.int 7)) (.nil)))) [])) (.cons (.asg (.name 2) (.call 19 (.cons (.slot 0) (.cons (.con (.int 2)) (.cons (.con (.int 6)) (.nil)))) [])) (.cons (.asg (.name 3) (.call 16 (.cons (.call 15 (.cons (.slot 0) (.cons (.con (.int 4)) (.nil))) []) (.cons (.bin .Add (.lst (.cons (.con (.int 12)) (.cons (.con (.int 7)) (.nil)))) (.bin .Mult (.lst (.cons (.con (.int 11)) (.nil))) (.con (.int 6)))) (.nil))) [])) (.cons (.asg (.name 4) (.bin .Mult (.idx (.slot 1) (.con (.int 0))) (.blt .int (.cons (.cmp .Gt (.idx (.slot 3) (.con (.int 0))) (.con (.int 0))) (.nil))))) (.cons (.asg (.name 5) (.lc [15] (.slot 15) (.name 15) (.lst (.keep (.idx (.slot 1) (.con (.int 1))))) (.cons (.cmp .Gt (.slot 4) (.con (.int 0))) .nil))) (.cons (.asg (.name 6) (.sl (.idx (.slot 1) (.con (.int 2))) (.skip) (.slot 4))) (.cons (.asg (.name 7) (.call 20 (.cons (.slot 4) (.cons (.slot 5) (.nil))) [])) (.cons (.asg (.name 8) (.mk 0 (.cons (.slot 4) (.cons (.slot 5) (.nil))) [])) (.cons (.asg (.name 9) (.mk 1 (.cons (.slot 8) (.cons (.slot 6) (.nil))) [])) (.cons (.asg (.name 10) (.bin .Add (.lc [17] (.bin .Sub (.idx (.slot 3) (.bin .Add (.con (.int 2)) (.slot 17))) (.con (.int 2))) (.name 17) (.rng1 (.idx (.slot 3) (.con (.int 1)))) (.nil)) (.sl (.lst (.cons (.bin .Pow (.con (.int 10)) (.con (.int 30))) (.cons (.bin .Sub (.con (.int 0)) (.bin .Pow (.con (.int 10)) (.con (.int 30)))) (.nil)))) (.skip) (.bin .Mod (.blt .int (.cons (.idx (.slot 3) (.con (.int 0))) (.nil))) (.con (.int 3)))))) (.cons (.asg (.name 11) (.blt .list (.cons (.slot 10) (.nil)))) (.cons (.ite (.or (.not (.call 23 (.cons (.call 13 (.cons (.slot 9) (.cons (.slot 11) (.nil))) []) (.cons (.slot 8) (.cons (.call 21 (.cons (.slot 7) (.cons (.slot 6) (.cons (.slot 10) (.nil)))) []) (.nil)))) [])) (.cmp .NotEq (.slot 11) (.slot 10))) (.cons (.ret (.con (.bl false))) (.nil)) (.nil)) (.cons (.asg (.name 12) (.mk 0 (.cons (.keep (.idx (.slot 2) (.con (.int 0)))) (.cons (.keep (.idx (.slot 2) (.con (.int 1)))) (.nil))) [])) (.cons (.asg (.name 13) (.mk 1 (.cons (.slot 12) (.cons (.blt .list (.cons (.keep (.idx (.slot 2) (.con (.int 2)))) (.nil))) (.nil))) [])) (.cons (.ite (.not (.call 23 (.cons (.call 13 (.cons (.slot 13) (.nil)) [.tup []]) (.cons (.slot 12) (.cons (.call 21 (.cons (.call 20 (.cons (.keep (.idx (.slot 2) (.con (.int 0)))) (.cons (.keep (.idx (.slot 2) (.con (.int 1)))) (.nil))) []) (.cons (.keep (.idx (.slot 2) (.con (.int 2)))) (.cons (.lst (.nil)) (.nil)))) []) (.nil)))) [])) (.cons (.ret (.con (.bl false))) (.nil)) (.nil)) (.cons (.ite (.not (.call 23 (.cons (.call 13 (.cons (.slot 9) (.cons (.blt .tuple (.cons (.bin .Add (.slot 10) (.slot 10)) (.nil))) (.nil))) []) (.cons (.slot 8) (.cons (.call 21 (.cons (.slot 7) (.cons (.slot 6) (.cons (.slot 10) (.nil)))) []) (.nil)))) [])) (.cons (.ret (.con (.bl false))) (.nil)) (.nil)) (.cons (.ite (.not (.call 23 (.cons (.call 13 (.cons (.slot 9) (.nil)) [.tup []]) (.cons (.slot 8) (.cons (.call 21 (.cons (.slot 7) (.cons (.slot 6) (.cons (.lst (.nil)) (.nil)))) []) (.nil)))) [])) (.cons (.ret (.con (.bl false))) (.nil)) (.nil)) (.cons (.asg (.name 14) (.lc [16] (.slot 16) (.name 16) (.rng1 (.slot 4)) (.nil))) (.cons (.ite (.not (.call 23 (.cons (.call 13 (.cons (.slot 9) (.cons (.slot 14) (.nil))) []) (.cons (.slot 8) (.cons (.lc [18] (.bin .Mod (.blt .int (.cons (.bin .Add (.slot 18) (.con (.int 1))) (.nil))) (.con (.int 3))) (.name 18) (.lst (.slot 6)) (.nil)) (.nil)))) [])) (.cons (.ret (.con (.bl false))) (.nil)) (.nil)) (.cons (.ret (.call 23 (.cons (.slot 9) (.cons (.slot 8) (.cons (.slot 6) (.nil)))) [])) (.nil))))))))))))))))))))
def f24 : Z.Def := ⟨1, 19, b24⟩
def names : List Str := ["size", "lines", "masks", "_near", "web", "picture"]
def spc (c : Nat) (s : Sp1) : Option Nat := match c, s with
  | 0, (.cmp .Eq) => some 4
  | 1, (.cmp .Eq) => some 7
  | _, _ => none
noncomputable def Gn (wf : Nat) : Nat → Gd
  | 0 => ⟨fun _ _ => none, fun _ _ => none, fun _ _ => none, wf, fun _ _ => none⟩
  | d + 1 => {
    call := fun f => match f with
      | 0 => runD (Gn wf d) f0
      | 1 => runD (Gn wf d) f1
      | 2 => runD (Gn wf d) f2
      | 4 => runD (Gn wf d) f4
      | 5 => runD (Gn wf d) f5
      | 7 => runD (Gn wf d) f7
      | 8 => runD (Gn wf d) f8
      | 9 => runD (Gn wf d) f9
      | 10 => runD (Gn wf d) f10
      | 11 => runD (Gn wf d) f11
      | 12 => runD (Gn wf d) f12
      | 13 => runD (Gn wf d) f13
      | 14 => runD (Gn wf d) f14
      | 15 => runD (Gn wf d) f15
      | 16 => runD (Gn wf d) f16
      | 17 => runD (Gn wf d) f17
      | 18 => runD (Gn wf d) f18
      | 19 => runD (Gn wf d) f19
      | 20 => runD (Gn wf d) f20
      | 21 => runD (Gn wf d) f21
      | 22 => runD (Gn wf d) f22
      | 23 => runD (Gn wf d) f23
      | 24 => runD (Gn wf d) f24
      | _ => fun _ => none
    meth := fun c m => match m with | _ => none
    new := fun c => match c with
      | 0 => newD (Gn wf d) 0 f3
      | 1 => newD (Gn wf d) 1 f6
      | _ => fun _ => none
    wf := wf
    spec := spc }
end P5

namespace P5
open PySem PySem.Spec PyProof.Rows L2 Z
structure Cn (L : Law) (k' : Nat) : Prop where
  ok : LawOk L
  nm : L.T.nm = names
  sp : Specs L k'
  b_bool : L.mg "bool" = none
  b_enumerate : L.mg "enumerate" = none
  b_int : L.mg "int" = none
  b_isinstance : L.mg "isinstance" = none
  b_len : L.mg "len" = none
  b_list : L.mg "list" = none
  b_max : L.mg "max" = none
  b_min : L.mg "min" = none
  b_range : L.mg "range" = none
  b_set : L.mg "set" = none
  b_sorted : L.mg "sorted" = none
  b_tuple : L.mg "tuple" = none
  ins : ∀ c, C8.InsC L.T.K (L.T.cl c)
  m_Web : L.mg "Web" = some (.ref (L.T.cl 0))
  k_Web : C8.Mak L.P L.w L.T.K L.mg L.base k' "Web" (L.T.cl 0) (spI L.T 0 fun _ => L.G.new 0) []
  m_Scene : L.mg "Scene" = some (.ref (L.T.cl 1))
  k_Scene : C8.Mak L.P L.w L.T.K L.mg L.base k' "Scene" (L.T.cl 1) (spI L.T 1 fun _ => L.G.new 1) []
  c_places_of : C8.Cal L.P L.w L.T.K L.mg L.base k' "places_of" (spD L.T (L.G.call 0)) []
  c_near_masks : C8.Cal L.P L.w L.T.K L.mg L.base k' "near_masks" (spD L.T (L.G.call 1)) []
  c_spread : C8.Cal L.P L.w L.T.K L.mg L.base k' "spread" (spD L.T (L.G.call 2)) []
  c_check_lines : C8.Cal L.P L.w L.T.K L.mg L.base k' "check_lines" (spD L.T (L.G.call 5)) []
  c_check_picture : C8.Cal L.P L.w L.T.K L.mg L.base k' "check_picture" (spD L.T (L.G.call 8)) []
  c_masks_of_scene : C8.Cal L.P L.w L.T.K L.mg L.base k' "masks_of_scene" (spD L.T (L.G.call 9)) []
  c_scene_of_masks : C8.Cal L.P L.w L.T.K L.mg L.base k' "scene_of_masks" (spD L.T (L.G.call 10)) []
  c_poked_mask : C8.Cal L.P L.w L.T.K L.mg L.base k' "poked_mask" (spD L.T (L.G.call 11)) []
  c_next_masks : C8.Cal L.P L.w L.T.K L.mg L.base k' "next_masks" (spD L.T (L.G.call 12)) []
  c_step : C8.Cal L.P L.w L.T.K L.mg L.base k' "step" (spD L.T (L.G.call 13)) []
  c__law_whole : C8.Cal L.P L.w L.T.K L.mg L.base k' "_law_whole" (spD L.T (L.G.call 14)) []
  c__law_cell : C8.Cal L.P L.w L.T.K L.mg L.base k' "_law_cell" (spD L.T (L.G.call 15)) []
  c__law_digits : C8.Cal L.P L.w L.T.K L.mg L.base k' "_law_digits" (spD L.T (L.G.call 16)) []
  c__law_web : C8.Cal L.P L.w L.T.K L.mg L.base k' "_law_web" (spD L.T (L.G.call 17)) []
  c__law_picture : C8.Cal L.P L.w L.T.K L.mg L.base k' "_law_picture" (spD L.T (L.G.call 18)) []
  c__law_scene : C8.Cal L.P L.w L.T.K L.mg L.base k' "_law_scene" (spD L.T (L.G.call 19)) []
  c__law_near : C8.Cal L.P L.w L.T.K L.mg L.base k' "_law_near" (spD L.T (L.G.call 20)) []
  c__law_step : C8.Cal L.P L.w L.T.K L.mg L.base k' "_law_step" (spD L.T (L.G.call 21)) []
  c__law_row : C8.Cal L.P L.w L.T.K L.mg L.base k' "_law_row" (spD L.T (L.G.call 22)) []
  c__law_is_scene : C8.Cal L.P L.w L.T.K L.mg L.base k' "_law_is_scene" (spD L.T (L.G.call 23)) []
  d_step_1 : CalD L k' "step" 13 [.tup []]
section
variable {L : Law} {k' k : Nat}
theorem t0 (X : Cn L k') (h1 : k' + 1 ≤ k) : SemSs L n0 (defSc s0) k (C8.fnBody s0) b0 :=
  have hk : k' ≤ k := Nat.le_of_succ_le h1
  semSs_cons (z_asg (by decide +kernel) (fun _ _ => rfl) (@sem_lst _ _ _ _ _ _ _ (semA_nil))) (semSs_cons (semS_while (semT_cmp (opT_cmpG X.sp hk .NotEq) (by rfl) (z_slot (by decide +kernel)) (sem_int)) (semSs_cons (z_asg (by decide +kernel) (fun _ _ => rfl) (sem_bin (opT_binG X.sp hk .BitAnd) (z_slot (by decide +kernel)) (sem_un (.inl rfl) (z_slot (by decide +kernel))))) (semSs_cons (z_app (by decide +kernel) (by rfl) (fun _ => rfl) (sem_bin (opT_binG X.sp hk .Sub) (sem_bits (fun _ => rfl) (by rfl) (z_slot (by decide +kernel))) (sem_int))) (semSs_cons (z_asg (by decide +kernel) (fun _ _ => rfl) (sem_bin (opT_binG X.sp hk .BitXor) (z_slot (by decide +kernel)) (z_slot (by decide +kernel)))) (semSs_nil))))) (semSs_cons (semS_ret (z_t (callG (by decide) callT_tuple) X.b_tuple (by decide +kernel) (by decide +kernel) (fun _ => rfl) (fun _ _ => rfl) (@semA_cons _ _ _ _ _ _ _ _ (fun _ => rfl) (z_slot (by decide +kernel)) (semA_nil)))) (semSs_nil)))
theorem t1 (X : Cn L k') (h1 : k' + 1 ≤ k) : SemSs L n1 (defSc s1) k (C8.fnBody s1) b1 :=
  have hk : k' ≤ k := Nat.le_of_succ_le h1
  semSs_cons (z_asgLc (own := [("_", 5)]) (by decide +kernel) (by decide +kernel)  (by decide +kernel) (fun _ _ => rfl) (by rfl) (by decide) (z_r1 X.b_range (by decide +kernel) (fun _ => rfl) (z_slot (by decide +kernel))) (z_gn (by decide +kernel)) (z_c0) (sem_int)) (semSs_cons (semS_for (fun _ _ => rfl) (semI_lst (z_slot (by decide +kernel))) (z_gt (fun _ => rfl) (fun _ => rfl) (semGs_cons (fun _ => rfl) (z_gn (by decide +kernel)) (semGs_cons (fun _ => rfl) (z_gn (by decide +kernel)) (semGs_nil)))) (semSs_cons (z_ssub (by decide +kernel) (fun _ _ => rfl) (fun _ => rfl) (fun _ => rfl) (fun _ _ => rfl) (z_slot (by decide +kernel)) (sem_bin (opT_binG X.sp hk .BitOr) (@sem_idx _ _ _ _ _ _ _ _ _ (fun _ _ => rfl) (z_slot (by decide +kernel)) (z_slot (by decide +kernel))) (sem_bin (opT_binG X.sp hk .LShift) (sem_int) (z_slot (by decide +kernel))))) (semSs_cons (z_ssub (by decide +kernel) (fun _ _ => rfl) (fun _ => rfl) (fun _ => rfl) (fun _ _ => rfl) (z_slot (by decide +kernel)) (sem_bin (opT_binG X.sp hk .BitOr) (@sem_idx _ _ _ _ _ _ _ _ _ (fun _ _ => rfl) (z_slot (by decide +kernel)) (z_slot (by decide +kernel))) (sem_bin (opT_binG X.sp hk .LShift) (sem_int) (z_slot (by decide +kernel))))) (semSs_nil)))) (semSs_cons (semS_ret (z_t (callG (by decide) callT_tuple) X.b_tuple (by decide +kernel) (by decide +kernel) (fun _ => rfl) (fun _ _ => rfl) (@semA_cons _ _ _ _ _ _ _ _ (fun _ => rfl) (z_slot (by decide +kernel)) (semA_nil)))) (semSs_nil)))
theorem t2 (X : Cn L k') (h1 : k' + 1 ≤ k) : SemSs L n2 (defSc s2) k (C8.fnBody s2) b2 :=
  have hk : k' ≤ k := Nat.le_of_succ_le h1
  semSs_cons (z_asg (by decide +kernel) (fun _ _ => rfl) (sem_int)) (semSs_cons (semS_for (fun _ _ => rfl) (semI_lst (z_call X.c_places_of hk (by decide +kernel) (fun _ => rfl) (fun _ _ => rfl) (@semA_cons _ _ _ _ _ _ _ _ (fun _ => rfl) (z_slot (by decide +kernel)) (semA_nil)))) (z_gn (by decide +kernel)) (semSs_cons (z_asg (by decide +kernel) (fun _ _ => rfl) (sem_bin (opT_binG X.sp hk .BitOr) (z_slot (by decide +kernel)) (@sem_idx _ _ _ _ _ _ _ _ _ (fun _ _ => rfl) (z_slot (by decide +kernel)) (z_slot (by decide +kernel))))) (semSs_nil))) (semSs_cons (semS_ret (z_slot (by decide +kernel))) (semSs_nil)))
theorem t3 (X : Cn L k') (h1 : k' + 1 ≤ k) : SemSs L n3 (defSc s3) k (C8.fnBody s3) b3 :=
  have hk : k' ≤ k := Nat.le_of_succ_le h1
  semSs_cons (semS_drop (fun _ _ => rfl) (z_call X.c_check_lines hk (by decide +kernel) (fun _ => rfl) (fun _ _ => rfl) (@semA_cons _ _ _ _ _ _ _ _ (fun _ => rfl) (z_slot (by decide +kernel)) (@semA_cons _ _ _ _ _ _ _ _ (fun _ => rfl) (z_slot (by decide +kernel)) (semA_nil))))) (semSs_cons (z_sfld X.ok X.nm (by rfl) (by decide +kernel) (fun _ _ => rfl) (z_slot (by decide +kernel))) (semSs_cons (z_sfld X.ok X.nm (by rfl) (by decide +kernel) (fun _ _ => rfl) (z_t (callG (by decide) callT_tuple) X.b_tuple (by decide +kernel) (by decide +kernel) (fun _ => rfl) (fun _ _ => rfl) (@semA_cons _ _ _ _ _ _ _ _ (fun _ => rfl) (sem_setsort (by decide +kernel) X.b_sorted X.b_set (fun _ => rfl) (fun _ => rfl) (z_lc (own := [("a", 4), ("b", 5)]) (by decide +kernel) (fun _ _ => rfl) (by rfl) (by decide) (semI_lst (z_slot (by decide +kernel))) (z_gt (fun _ => rfl) (fun _ => rfl) (semGs_cons (fun _ => rfl) (z_gn (by decide +kernel)) (semGs_cons (fun _ => rfl) (z_gn (by decide +kernel)) (semGs_nil)))) (z_c0) (@sem_tup _ _ _ _ _ _ _ _ (@semA_cons _ _ _ _ _ _ _ _ (fun _ => rfl) (z_b (callG (by decide) callT_min2) X.b_min (by decide +kernel) (by decide +kernel) (fun _ => rfl) (fun _ _ => rfl) (@semA_cons _ _ _ _ _ _ _ _ (fun _ => rfl) (z_slot (by decide +kernel)) (@semA_cons _ _ _ _ _ _ _ _ (fun _ => rfl) (z_slot (by decide +kernel)) (semA_nil)))) (@semA_cons _ _ _ _ _ _ _ _ (fun _ => rfl) (z_b (callG (by decide) callT_max2) X.b_max (by decide +kernel) (by decide +kernel) (fun _ => rfl) (fun _ _ => rfl) (@semA_cons _ _ _ _ _ _ _ _ (fun _ => rfl) (z_slot (by decide +kernel)) (@semA_cons _ _ _ _ _ _ _ _ (fun _ => rfl) (z_slot (by decide +kernel)) (semA_nil)))) (semA_nil)))))) (semA_nil)))) (semSs_cons (z_sfld X.ok X.nm (by rfl) (by decide +kernel) (fun _ _ => rfl) (z_call X.c_near_masks hk (by decide +kernel) (fun _ => rfl) (fun _ _ => rfl) (@semA_cons _ _ _ _ _ _ _ _ (fun _ => rfl) (z_slot (by decide +kernel)) (@semA_cons _ _ _ _ _ _ _ _ (fun _ => rfl) (z_fld X.ok X.nm (by rfl) (fun _ => rfl) (z_slot (by decide +kernel))) (semA_nil))))) (semSs_cons (z_sfld X.ok X.nm (by rfl) (by decide +kernel) (fun _ _ => rfl) (z_t (callG (by decide) callT_tuple) X.b_tuple (by decide +kernel) (by decide +kernel) (fun _ => rfl) (fun _ _ => rfl) (@semA_cons _ _ _ _ _ _ _ _ (fun _ => rfl) (z_lc (own := [("mask", 3)]) (by decide +kernel) (fun _ _ => rfl) (by rfl) (by decide) (semI_lst (z_fld X.ok X.nm (by rfl) (fun _ => rfl) (z_slot (by decide +kernel)))) (z_gn (by decide +kernel)) (z_c0) (z_call X.c_places_of hk (by decide +kernel) (fun _ => rfl) (fun _ _ => rfl) (@semA_cons _ _ _ _ _ _ _ _ (fun _ => rfl) (z_slot (by decide +kernel)) (semA_nil)))) (semA_nil)))) (semSs_nil)))))
theorem t4 (X : Cn L k') (h1 : k' + 1 ≤ k) : SemSs L n4 (defSc s4) k (C8.fnBody s4) b4 :=
  have hk : k' ≤ k := Nat.le_of_succ_le h1
  semSs_cons (semS_ret (sem_and (z_isiC (X.ins 0) X.b_isinstance X.m_Web (by decide +kernel) (fun _ => rfl) (z_slot (by decide +kernel))) (sem_and (sem_cmp (opT_cmpG X.sp hk .Eq) (by rfl) (z_fld X.ok X.nm (by rfl) (fun _ => rfl) (z_slot (by decide +kernel))) (z_fld X.ok X.nm (by rfl) (fun _ => rfl) (z_slot (by decide +kernel)))) (sem_one (sem_cmp (opT_cmpG X.sp hk .Eq) (by rfl) (z_fld X.ok X.nm (by rfl) (fun _ => rfl) (z_slot (by decide +kernel))) (z_fld X.ok X.nm (by rfl) (fun _ => rfl) (z_slot (by decide +kernel)))))))) (semSs_nil)
theorem t5 (X : Cn L k') (h1 : k' + 1 ≤ k) : SemSs L n5 (defSc s5) k (C8.fnBody s5) b5 :=
  have hk : k' ≤ k := Nat.le_of_succ_le h1
  semSs_cons (semS_for (fun _ _ => rfl) (z_enum X.b_enumerate (by decide +kernel) (fun _ => rfl) (z_slot (by decide +kernel))) (z_gt (fun _ => rfl) (fun _ => rfl) (semGs_cons (fun _ => rfl) (z_gn (by decide +kernel)) (semGs_cons (fun _ => rfl) (z_gt (fun _ => rfl) (fun _ => rfl) (semGs_cons (fun _ => rfl) (z_gn (by decide +kernel)) (semGs_cons (fun _ => rfl) (z_gn (by decide +kernel)) (semGs_nil)))) (semGs_nil)))) (semSs_cons (semS_ite (SemW.t (semW_or (semT_not (SemW.t (semW_and (semT_chain (by rfl) (sem_int) (z_slot (by decide +kernel)) (z_slot (by decide +kernel))) (semW_and1 (semT_chain (by rfl) (sem_int) (z_slot (by decide +kernel)) (z_slot (by decide +kernel))))))) (semW_or1 (semT_cmp (opT_cmpG X.sp hk .Eq) (by rfl) (z_slot (by decide +kernel)) (z_slot (by decide +kernel)))))) (semSs_cons (semS_never) (semSs_nil)) (semSs_nil)) (semSs_nil))) (semSs_nil)
theorem t6 (X : Cn L k') (h1 : k' + 1 ≤ k) : SemSs L n6 (defSc s6) k (C8.fnBody s6) b6 :=
  have hk : k' ≤ k := Nat.le_of_succ_le h1
  semSs_cons (semS_drop (fun _ _ => rfl) (z_call X.c_check_picture hk (by decide +kernel) (fun _ => rfl) (fun _ _ => rfl) (@semA_cons _ _ _ _ _ _ _ _ (fun _ => rfl) (z_fld X.ok X.nm (by rfl) (fun _ => rfl) (z_slot (by decide +kernel))) (@semA_cons _ _ _ _ _ _ _ _ (fun _ => rfl) (z_slot (by decide +kernel)) (semA_nil))))) (semSs_cons (z_sfld X.ok X.nm (by rfl) (by decide +kernel) (fun _ _ => rfl) (z_slot (by decide +kernel))) (semSs_cons (z_sfld X.ok X.nm (by rfl) (by decide +kernel) (fun _ _ => rfl) (z_t (callG (by decide) callT_tuple) X.b_tuple (by decide +kernel) (by decide +kernel) (fun _ => rfl) (fun _ _ => rfl) (@semA_cons _ _ _ _ _ _ _ _ (fun _ => rfl) (z_slot (by decide +kernel)) (semA_nil)))) (semSs_nil)))
theorem t7 (X : Cn L k') (h1 : k' + 1 ≤ k) : SemSs L n7 (defSc s7) k (C8.fnBody s7) b7 :=
  have hk : k' ≤ k := Nat.le_of_succ_le h1
  semSs_cons (semS_ret (sem_and (z_isiC (X.ins 1) X.b_isinstance X.m_Scene (by decide +kernel) (fun _ => rfl) (z_slot (by decide +kernel))) (sem_and (sem_cmp (opT_cmpG X.sp hk .Eq) (by rfl) (z_fld X.ok X.nm (by rfl) (fun _ => rfl) (z_slot (by decide +kernel))) (z_fld X.ok X.nm (by rfl) (fun _ => rfl) (z_slot (by decide +kernel)))) (sem_one (sem_cmp (opT_cmpG X.sp hk .Eq) (by rfl) (z_fld X.ok X.nm (by rfl) (fun _ => rfl) (z_slot (by decide +kernel))) (z_fld X.ok X.nm (by rfl) (fun _ => rfl) (z_slot (by decide +kernel)))))))) (semSs_nil)
theorem t8 (X : Cn L k') (h1 : k' + 1 ≤ k) : SemSs L n8 (defSc s8) k (C8.fnBody s8) b8 :=
  have hk : k' ≤ k := Nat.le_of_succ_le h1
  semSs_cons (semS_for (fun _ _ => rfl) (z_enum X.b_enumerate (by decide +kernel) (fun _ => rfl) (z_slot (by decide +kernel))) (z_gt (fun _ => rfl) (fun _ => rfl) (semGs_cons (fun _ => rfl) (z_gn (by decide +kernel)) (semGs_cons (fun _ => rfl) (z_gn (by decide +kernel)) (semGs_nil)))) (semSs_cons (semS_ite (SemW.t (semW_or (semT_cmp (opT_cmpG X.sp hk .GtE) (by rfl) (z_slot (by decide +kernel)) (z_slot (by decide +kernel))) (semW_or1 (semT_cmp (opT_cmpG X.sp hk .NotIn) (by rfl) (z_slot (by decide +kernel)) (@sem_tup _ _ _ _ _ _ _ _ (@semA_cons _ _ _ _ _ _ _ _ (fun _ => rfl) (sem_int) (@semA_cons _ _ _ _ _ _ _ _ (fun _ => rfl) (sem_int) (@semA_cons _ _ _ _ _ _ _ _ (fun _ => rfl) (sem_int) (semA_nil))))))))) (semSs_cons (semS_never) (semSs_nil)) (semSs_nil)) (semSs_nil))) (semSs_cons (semS_ite (semT_cmp (opT_cmpG X.sp hk .Lt) (by rfl) (z_b (callT_lenG X.sp h1) X.b_len (by decide +kernel) (by decide +kernel) (fun _ => rfl) (fun _ _ => rfl) (@semA_cons _ _ _ _ _ _ _ _ (fun _ => rfl) (z_slot (by decide +kernel)) (semA_nil))) (z_slot (by decide +kernel))) (semSs_cons (semS_never) (semSs_nil)) (semSs_nil)) (semSs_nil))
theorem t9 (X : Cn L k') (h1 : k' + 1 ≤ k) : SemSs L n9 (defSc s9) k (C8.fnBody s9) b9 :=
  have hk : k' ≤ k := Nat.le_of_succ_le h1
  semSs_cons (z_asg (by decide +kernel) (fun _ _ => rfl) (sem_int)) (semSs_cons (z_asg (by decide +kernel) (fun _ _ => rfl) (sem_int)) (semSs_cons (semS_for (fun _ _ => rfl) (z_enum X.b_enumerate (by decide +kernel) (fun _ => rfl) (z_fld X.ok X.nm (by rfl) (fun _ => rfl) (z_slot (by decide +kernel)))) (z_gt (fun _ => rfl) (fun _ => rfl) (semGs_cons (fun _ => rfl) (z_gn (by decide +kernel)) (semGs_cons (fun _ => rfl) (z_gn (by decide +kernel)) (semGs_nil)))) (semSs_cons (semS_ite (semT_cmp (opT_cmpG X.sp hk .Eq) (by rfl) (z_slot (by decide +kernel)) (sem_int)) (semSs_cons (z_asg (by decide +kernel) (fun _ _ => rfl) (sem_bin (opT_binG X.sp hk .BitOr) (z_slot (by decide +kernel)) (sem_bin (opT_binG X.sp hk .LShift) (sem_int) (z_slot (by decide +kernel))))) (semSs_nil)) (semSs_cons (semS_ite (semT_cmp (opT_cmpG X.sp hk .Eq) (by rfl) (z_slot (by decide +kernel)) (sem_int)) (semSs_cons (z_asg (by decide +kernel) (fun _ _ => rfl) (sem_bin (opT_binG X.sp hk .BitOr) (z_slot (by decide +kernel)) (sem_bin (opT_binG X.sp hk .LShift) (sem_int) (z_slot (by decide +kernel))))) (semSs_nil)) (semSs_nil)) (semSs_nil))) (semSs_nil))) (semSs_cons (semS_ret (@sem_tup _ _ _ _ _ _ _ _ (@semA_cons _ _ _ _ _ _ _ _ (fun _ => rfl) (z_slot (by decide +kernel)) (@semA_cons _ _ _ _ _ _ _ _ (fun _ => rfl) (z_slot (by decide +kernel)) (semA_nil))))) (semSs_nil))))
theorem t10 (X : Cn L k') (h1 : k' + 1 ≤ k) : SemSs L n10 (defSc s10) k (C8.fnBody s10) b10 :=
  have hk : k' ≤ k := Nat.le_of_succ_le h1
  semSs_cons (semS_asgT (fun _ _ => rfl) (fun _ => rfl) (fun _ => rfl) (z_gt (fun _ => rfl) (fun _ => rfl) (semGs_cons (fun _ => rfl) (z_gn (by decide +kernel)) (semGs_cons (fun _ => rfl) (z_gn (by decide +kernel)) (semGs_nil)))) (z_slot (by decide +kernel))) (semSs_cons (z_asgLc (own := [("place", 5)]) (by decide +kernel) (by decide +kernel)  (by decide +kernel) (fun _ _ => rfl) (by rfl) (by decide) (z_r1 X.b_range (by decide +kernel) (fun _ => rfl) (z_fld X.ok X.nm (by rfl) (fun _ => rfl) (z_slot (by decide +kernel)))) (z_gn (by decide +kernel)) (z_c0) (sem_bin (opT_binG X.sp hk .Add) (sem_bin (opT_binG X.sp hk .BitAnd) (sem_bin (opT_binG X.sp hk .RShift) (z_slot (by decide +kernel)) (z_slot (by decide +kernel))) (sem_int)) (sem_bin (opT_binG X.sp hk .Mult) (sem_int) (sem_bin (opT_binG X.sp hk .BitAnd) (sem_bin (opT_binG X.sp hk .RShift) (z_slot (by decide +kernel)) (z_slot (by decide +kernel))) (sem_int))))) (semSs_cons (semS_ret (z_mk X.k_Scene h1 (by decide +kernel) (fun _ => rfl) (fun _ _ => rfl) (@semA_cons _ _ _ _ _ _ _ _ (fun _ => rfl) (z_slot (by decide +kernel)) (@semA_cons _ _ _ _ _ _ _ _ (fun _ => rfl) (z_slot (by decide +kernel)) (semA_nil))))) (semSs_nil)))
theorem t11 (X : Cn L k') (h1 : k' + 1 ≤ k) : SemSs L n11 (defSc s11) k (C8.fnBody s11) b11 :=
  have hk : k' ≤ k := Nat.le_of_succ_le h1
  semSs_cons (z_asg (by decide +kernel) (fun _ _ => rfl) (sem_int)) (semSs_cons (semS_for (fun _ _ => rfl) (semI_lst (z_slot (by decide +kernel))) (z_gn (by decide +kernel)) (semSs_cons (semS_ite (semT_chain (by rfl) (sem_int) (z_slot (by decide +kernel)) (z_fld X.ok X.nm (by rfl) (fun _ => rfl) (z_slot (by decide +kernel)))) (semSs_cons (z_asg (by decide +kernel) (fun _ _ => rfl) (sem_bin (opT_binG X.sp hk .BitOr) (z_slot (by decide +kernel)) (sem_bin (opT_binG X.sp hk .LShift) (sem_int) (z_slot (by decide +kernel))))) (semSs_nil)) (semSs_nil)) (semSs_nil))) (semSs_cons (semS_ret (z_slot (by decide +kernel))) (semSs_nil)))
theorem t12 (X : Cn L k') (h1 : k' + 1 ≤ k) : SemSs L n12 (defSc s12) k (C8.fnBody s12) b12 :=
  have hk : k' ≤ k := Nat.le_of_succ_le h1
  semSs_cons (semS_asgT (fun _ _ => rfl) (fun _ => rfl) (fun _ => rfl) (z_gt (fun _ => rfl) (fun _ => rfl) (semGs_cons (fun _ => rfl) (z_gn (by decide +kernel)) (semGs_cons (fun _ => rfl) (z_gn (by decide +kernel)) (semGs_nil)))) (z_slot (by decide +kernel))) (semSs_cons (z_asg (by decide +kernel) (fun _ _ => rfl) (sem_bin (opT_binG X.sp hk .BitOr) (z_call X.c_spread hk (by decide +kernel) (fun _ => rfl) (fun _ _ => rfl) (@semA_cons _ _ _ _ _ _ _ _ (fun _ => rfl) (z_slot (by decide +kernel)) (@semA_cons _ _ _ _ _ _ _ _ (fun _ => rfl) (z_slot (by decide +kernel)) (semA_nil)))) (z_slot (by decide +kernel)))) (semSs_cons (semS_ret (@sem_tup _ _ _ _ _ _ _ _ (@semA_cons _ _ _ _ _ _ _ _ (fun _ => rfl) (sem_bin (opT_binG X.sp hk .BitAnd) (z_slot (by decide +kernel)) (sem_un (.inr rfl) (sem_bin (opT_binG X.sp hk .BitOr) (z_slot (by decide +kernel)) (z_slot (by decide +kernel))))) (@semA_cons _ _ _ _ _ _ _ _ (fun _ => rfl) (z_slot (by decide +kernel)) (semA_nil))))) (semSs_nil)))
theorem t13 (X : Cn L k') (h1 : k' + 1 ≤ k) : SemSs L n13 (defSc s13) k (C8.fnBody s13) b13 :=
  have hk : k' ≤ k := Nat.le_of_succ_le h1
  semSs_cons (z_asg (by decide +kernel) (fun _ _ => rfl) (z_fld X.ok X.nm (by rfl) (fun _ => rfl) (z_slot (by decide +kernel)))) (semSs_cons (z_asg (by decide +kernel) (fun _ _ => rfl) (z_call X.c_next_masks hk (by decide +kernel) (fun _ => rfl) (fun _ _ => rfl) (@semA_cons _ _ _ _ _ _ _ _ (fun _ => rfl) (z_fld X.ok X.nm (by rfl) (fun _ => rfl) (z_slot (by decide +kernel))) (@semA_cons _ _ _ _ _ _ _ _ (fun _ => rfl) (z_call X.c_masks_of_scene hk (by decide +kernel) (fun _ => rfl) (fun _ _ => rfl) (@semA_cons _ _ _ _ _ _ _ _ (fun _ => rfl) (z_slot (by decide +kernel)) (semA_nil))) (@semA_cons _ _ _ _ _ _ _ _ (fun _ => rfl) (z_call X.c_poked_mask hk (by decide +kernel) (fun _ => rfl) (fun _ _ => rfl) (@semA_cons _ _ _ _ _ _ _ _ (fun _ => rfl) (z_slot (by decide +kernel)) (@semA_cons _ _ _ _ _ _ _ _ (fun _ => rfl) (z_slot (by decide +kernel)) (semA_nil)))) (semA_nil)))))) (semSs_cons (semS_ret (z_call X.c_scene_of_masks hk (by decide +kernel) (fun _ => rfl) (fun _ _ => rfl) (@semA_cons _ _ _ _ _ _ _ _ (fun _ => rfl) (z_slot (by decide +kernel)) (@semA_cons _ _ _ _ _ _ _ _ (fun _ => rfl) (z_slot (by decide +kernel)) (semA_nil))))) (semSs_nil)))
theorem t14 (X : Cn L k') (h1 : k' + 1 ≤ k) : SemSs L n14 (defSc s14) k (C8.fnBody s14) b14 :=
  have hk : k' ≤ k := Nat.le_of_succ_le h1
  semSs_cons (semS_ret (sem_and (z_isi X.b_isinstance X.b_int (by decide +kernel) (by decide +kernel) (by intro c h; cases h) (fun _ => rfl) (z_slot (by decide +kernel))) (sem_one (sem_not (z_isi X.b_isinstance X.b_bool (by decide +kernel) (by decide +kernel) (by intro c h; cases h) (fun _ => rfl) (z_slot (by decide +kernel))))))) (semSs_nil)
theorem t15 (X : Cn L k') (h1 : k' + 1 ≤ k) : SemSs L n15 (defSc s15) k (C8.fnBody s15) b15 :=
  have hk : k' ≤ k := Nat.le_of_succ_le h1
  semSs_cons (semS_ite (semT_cmp (opT_cmpG X.sp hk .Lt) (by rfl) (z_slot (by decide +kernel)) (z_b (callT_lenG X.sp h1) X.b_len (by decide +kernel) (by decide +kernel) (fun _ => rfl) (fun _ _ => rfl) (@semA_cons _ _ _ _ _ _ _ _ (fun _ => rfl) (z_slot (by decide +kernel)) (semA_nil)))) (semSs_cons (semS_ret (@sem_idx _ _ _ _ _ _ _ _ _ (fun _ _ => rfl) (z_slot (by decide +kernel)) (z_slot (by decide +kernel)))) (semSs_nil)) (semSs_nil)) (semSs_cons (z_asg (by decide +kernel) (fun _ _ => rfl) (sem_int)) (semSs_cons (semS_for (fun _ _ => rfl) (semI_lst (z_slot (by decide +kernel))) (z_gn (by decide +kernel)) (semSs_cons (z_asg (by decide +kernel) (fun _ _ => rfl) (sem_bin (opT_binG X.sp hk .Mod) (z_t (callG (by decide) callT_int) X.b_int (by decide +kernel) (by decide +kernel) (fun _ => rfl) (fun _ _ => rfl) (@semA_cons _ _ _ _ _ _ _ _ (fun _ => rfl) (sem_bin (opT_binG X.sp hk .Add) (sem_bin (opT_binG X.sp hk .Mult) (z_slot (by decide +kernel)) (sem_int)) (sem_bin (opT_binG X.sp hk .Mod) (z_t (callG (by decide) callT_int) X.b_int (by decide +kernel) (by decide +kernel) (fun _ => rfl) (fun _ _ => rfl) (@semA_cons _ _ _ _ _ _ _ _ (fun _ => rfl) (z_slot (by decide +kernel)) (semA_nil))) (sem_int))) (semA_nil))) (sem_int))) (semSs_nil))) (semSs_cons (semS_ret (sem_bin (opT_binG X.sp hk .Mod) (z_t (callG (by decide) callT_int) X.b_int (by decide +kernel) (by decide +kernel) (fun _ => rfl) (fun _ _ => rfl) (@semA_cons _ _ _ _ _ _ _ _ (fun _ => rfl) (sem_bin (opT_binG X.sp hk .Mult) (sem_bin (opT_binG X.sp hk .Mult) (sem_bin (opT_binG X.sp hk .Add) (z_slot (by decide +kernel)) (sem_int)) (sem_bin (opT_binG X.sp hk .Add) (z_slot (by decide +kernel)) (sem_int))) (sem_int)) (semA_nil))) (sem_int))) (semSs_nil))))
theorem t16 (X : Cn L k') (h1 : k' + 1 ≤ k) : SemSs L n16 (defSc s16) k (C8.fnBody s16) b16 :=
  have hk : k' ≤ k := Nat.le_of_succ_le h1
  semSs_cons (z_asg (by decide +kernel) (fun _ _ => rfl) (@sem_lst _ _ _ _ _ _ _ (semA_nil))) (semSs_cons (z_asg (by decide +kernel) (fun _ _ => rfl) (z_t (callG (by decide) callT_int) X.b_int (by decide +kernel) (by decide +kernel) (fun _ => rfl) (fun _ _ => rfl) (@semA_cons _ _ _ _ _ _ _ _ (fun _ => rfl) (z_slot (by decide +kernel)) (semA_nil)))) (semSs_cons (semS_ite (semT_cmp (opT_cmpG X.sp hk .GtE) (by rfl) (z_slot (by decide +kernel)) (sem_bin (opT_binG X.sp hk .Pow) (sem_int) (sem_int))) (semSs_cons (z_asg (by decide +kernel) (fun _ _ => rfl) (sem_bin (opT_binG X.sp hk .Sub) (z_slot (by decide +kernel)) (sem_bin (opT_binG X.sp hk .Pow) (sem_int) (sem_int)))) (semSs_cons (semS_for (fun _ _ => rfl) (semI_lst (z_slot (by decide +kernel))) (z_gn (by decide +kernel)) (semSs_cons (z_app (by decide +kernel) (by rfl) (fun _ => rfl) (sem_bin (opT_binG X.sp hk .Mod) (z_t (callG (by decide) callT_int) X.b_int (by decide +kernel) (by decide +kernel) (fun _ => rfl) (fun _ _ => rfl) (@semA_cons _ _ _ _ _ _ _ _ (fun _ => rfl) (z_slot (by decide +kernel)) (semA_nil))) (z_slot (by decide +kernel)))) (semSs_cons (z_asg (by decide +kernel) (fun _ _ => rfl) (sem_bin (opT_binG X.sp hk .FloorDiv) (z_t (callG (by decide) callT_int) X.b_int (by decide +kernel) (by decide +kernel) (fun _ => rfl) (fun _ _ => rfl) (@semA_cons _ _ _ _ _ _ _ _ (fun _ => rfl) (z_slot (by decide +kernel)) (semA_nil))) (z_slot (by decide +kernel)))) (semSs_nil)))) (semSs_cons (semS_ret (z_slot (by decide +kernel))) (semSs_nil)))) (semSs_nil)) (semSs_cons (z_asg (by decide +kernel) (fun _ _ => rfl) (sem_bin (opT_binG X.sp hk .Mod) (z_t (callG (by decide) callT_int) X.b_int (by decide +kernel) (by decide +kernel) (fun _ => rfl) (fun _ _ => rfl) (@semA_cons _ _ _ _ _ _ _ _ (fun _ => rfl) (z_slot (by decide +kernel)) (semA_nil))) (sem_int))) (semSs_cons (semS_for (fun _ _ => rfl) (z_r1 X.b_range (by decide +kernel) (fun _ => rfl) (z_b (callT_lenG X.sp h1) X.b_len (by decide +kernel) (by decide +kernel) (fun _ => rfl) (fun _ _ => rfl) (@semA_cons _ _ _ _ _ _ _ _ (fun _ => rfl) (z_slot (by decide +kernel)) (semA_nil)))) (z_gn (by decide +kernel)) (semSs_cons (z_asg (by decide +kernel) (fun _ _ => rfl) (sem_bin (opT_binG X.sp hk .Mod) (z_t (callG (by decide) callT_int) X.b_int (by decide +kernel) (by decide +kernel) (fun _ => rfl) (fun _ _ => rfl) (@semA_cons _ _ _ _ _ _ _ _ (fun _ => rfl) (sem_bin (opT_binG X.sp hk .Add) (sem_bin (opT_binG X.sp hk .Add) (sem_bin (opT_binG X.sp hk .Mult) (z_slot (by decide +kernel)) (sem_int)) (sem_bin (opT_binG X.sp hk .Mult) (sem_int) (z_slot (by decide +kernel)))) (sem_int)) (semA_nil))) (sem_int))) (semSs_cons (z_asg (by decide +kernel) (fun _ _ => rfl) (sem_bin (opT_binG X.sp hk .Mod) (z_t (callG (by decide) callT_int) X.b_int (by decide +kernel) (by decide +kernel) (fun _ => rfl) (fun _ _ => rfl) (@semA_cons _ _ _ _ _ _ _ _ (fun _ => rfl) (sem_bin (opT_binG X.sp hk .Mult) (z_slot (by decide +kernel)) (sem_bin (opT_binG X.sp hk .Add) (sem_bin (opT_binG X.sp hk .FloorDiv) (z_slot (by decide +kernel)) (sem_int)) (sem_int))) (semA_nil))) (sem_int))) (semSs_cons (z_app (by decide +kernel) (by rfl) (fun _ => rfl) (sem_bin (opT_binG X.sp hk .Mod) (sem_bin (opT_binG X.sp hk .FloorDiv) (z_slot (by decide +kernel)) (sem_int)) (@sem_idx _ _ _ _ _ _ _ _ _ (fun _ _ => rfl) (z_slot (by decide +kernel)) (z_slot (by decide +kernel))))) (semSs_nil))))) (semSs_cons (semS_ret (z_slot (by decide +kernel))) (semSs_nil))))))
theorem t17 (X : Cn L k') (h1 : k' + 1 ≤ k) : SemSs L n17 (defSc s17) k (C8.fnBody s17) b17 :=
  have hk : k' ≤ k := Nat.le_of_succ_le h1
  semSs_cons (z_asg (by decide +kernel) (fun _ _ => rfl) (z_b (callG (by decide) callT_min2) X.b_min (by decide +kernel) (by decide +kernel) (fun _ => rfl) (fun _ _ => rfl) (@semA_cons _ _ _ _ _ _ _ _ (fun _ => rfl) (z_slot (by decide +kernel)) (@semA_cons _ _ _ _ _ _ _ _ (fun _ => rfl) (@sem_idx _ _ _ _ _ _ _ _ _ (fun _ _ => rfl) (@sem_lst _ _ _ _ _ _ _ (@semA_cons _ _ _ _ _ _ _ _ (fun _ => rfl) (sem_int) (@semA_cons _ _ _ _ _ _ _ _ (fun _ => rfl) (sem_int) (@semA_cons _ _ _ _ _ _ _ _ (fun _ => rfl) (sem_int) (@semA_cons _ _ _ _ _ _ _ _ (fun _ => rfl) (sem_int) (@semA_cons _ _ _ _ _ _ _ _ (fun _ => rfl) (sem_int) (@semA_cons _ _ _ _ _ _ _ _ (fun _ => rfl) (sem_int) (@semA_cons _ _ _ _ _ _ _ _ (fun _ => rfl) (sem_int) (@semA_cons _ _ _ _ _ _ _ _ (fun _ => rfl) (sem_int) (@semA_cons _ _ _ _ _ _ _ _ (fun _ => rfl) (sem_int) (@semA_cons _ _ _ _ _ _ _ _ (fun _ => rfl) (sem_int) (@semA_cons _ _ _ _ _ _ _ _ (fun _ => rfl) (sem_int) (@semA_cons _ _ _ _ _ _ _ _ (fun _ => rfl) (sem_int) (semA_nil)))))))))))))) (@sem_idx _ _ _ _ _ _ _ _ _ (fun _ _ => rfl) (z_slot (by decide +kernel)) (sem_int))) (semA_nil))))) (semSs_cons (z_asg (by decide +kernel) (fun _ _ => rfl) (@sem_lst _ _ _ _ _ _ _ (semA_nil))) (semSs_cons (semS_for (fun _ _ => rfl) (z_r2 X.b_range (by decide +kernel) (fun _ => rfl) (fun _ => rfl) (sem_int) (z_slot (by decide +kernel))) (z_gn (by decide +kernel)) (semSs_cons (z_asg (by decide +kernel) (fun _ _ => rfl) (@sem_idx _ _ _ _ _ _ _ _ _ (fun _ _ => rfl) (@sem_lst _ _ _ _ _ _ _ (@semA_cons _ _ _ _ _ _ _ _ (fun _ => rfl) (sem_bin (opT_binG X.sp hk .Sub) (z_slot (by decide +kernel)) (sem_int)) (@semA_cons _ _ _ _ _ _ _ _ (fun _ => rfl) (sem_bin (opT_binG X.sp hk .Sub) (z_slot (by decide +kernel)) (sem_int)) (@semA_cons _ _ _ _ _ _ _ _ (fun _ => rfl) (sem_bin (opT_binG X.sp hk .Sub) (z_slot (by decide +kernel)) (sem_int)) (@semA_cons _ _ _ _ _ _ _ _ (fun _ => rfl) (sem_int) (@semA_cons _ _ _ _ _ _ _ _ (fun _ => rfl) (sem_bin (opT_binG X.sp hk .FloorDiv) (z_slot (by decide +kernel)) (sem_int)) (@semA_cons _ _ _ _ _ _ _ _ (fun _ => rfl) (sem_int) (semA_nil)))))))) (@sem_idx _ _ _ _ _ _ _ _ _ (fun _ _ => rfl) (z_slot (by decide +kernel)) (sem_bin (opT_binG X.sp hk .Mult) (sem_int) (z_slot (by decide +kernel)))))) (semSs_cons (semS_ite (semT_cmp (opT_cmpG X.sp hk .Lt) (by rfl) (@sem_idx _ _ _ _ _ _ _ _ _ (fun _ _ => rfl) (z_slot (by decide +kernel)) (sem_int)) (sem_int)) (semSs_cons (z_asg (by decide +kernel) (fun _ _ => rfl) (sem_bin (opT_binG X.sp hk .Sub) (z_slot (by decide +kernel)) (sem_int))) (semSs_nil)) (semSs_nil)) (semSs_cons (semS_ite (semT_cmp (opT_cmpG X.sp hk .Lt) (by rfl) (@sem_idx _ _ _ _ _ _ _ _ _ (fun _ _ => rfl) (z_slot (by decide +kernel)) (sem_bin (opT_binG X.sp hk .Sub) (sem_bin (opT_binG X.sp hk .Mult) (sem_int) (z_slot (by decide +kernel))) (sem_int))) (sem_int)) (semSs_cons (z_app (by decide +kernel) (by rfl) (fun _ => rfl) (@sem_tup _ _ _ _ _ _ _ _ (@semA_cons _ _ _ _ _ _ _ _ (fun _ => rfl) (z_slot (by decide +kernel)) (@semA_cons _ _ _ _ _ _ _ _ (fun _ => rfl) (z_slot (by decide +kernel)) (semA_nil))))) (semSs_nil)) (semSs_nil)) (semSs_nil))))) (semSs_cons (semS_ite (SemW.t (semW_and (semT_cmp (opT_cmpG X.sp hk .Gt) (by rfl) (z_slot (by decide +kernel)) (sem_int)) (semW_and1 (semT_cmp (opT_cmpG X.sp hk .Lt) (by rfl) (@sem_idx _ _ _ _ _ _ _ _ _ (fun _ _ => rfl) (z_slot (by decide +kernel)) (sem_int)) (sem_int))))) (semSs_cons (z_app (by decide +kernel) (by rfl) (fun _ => rfl) (@sem_tup _ _ _ _ _ _ _ _ (@semA_cons _ _ _ _ _ _ _ _ (fun _ => rfl) (sem_int) (@semA_cons _ _ _ _ _ _ _ _ (fun _ => rfl) (sem_bin (opT_binG X.sp hk .Sub) (z_slot (by decide +kernel)) (sem_int)) (semA_nil))))) (semSs_nil)) (semSs_nil)) (semSs_cons (semS_for (fun _ _ => rfl) (z_r1 X.b_range (by decide +kernel) (fun _ => rfl) (sem_int)) (z_gn (by decide +kernel)) (semSs_cons (z_asg (by decide +kernel) (fun _ _ => rfl) (sem_bin (opT_binG X.sp hk .Mod) (@sem_idx _ _ _ _ _ _ _ _ _ (fun _ _ => rfl) (z_slot (by decide +kernel)) (sem_bin (opT_binG X.sp hk .Add) (sem_int) (sem_bin (opT_binG X.sp hk .Mult) (sem_int) (z_slot (by decide +kernel))))) (z_slot (by decide +kernel)))) (semSs_cons (z_asg (by decide +kernel) (fun _ _ => rfl) (sem_bin (opT_binG X.sp hk .Mod) (@sem_idx _ _ _ _ _ _ _ _ _ (fun _ _ => rfl) (z_slot (by decide +kernel)) (sem_bin (opT_binG X.sp hk .Add) (sem_int) (sem_bin (opT_binG X.sp hk .Mult) (sem_int) (z_slot (by decide +kernel))))) (z_slot (by decide +kernel)))) (semSs_cons (semS_ite (SemW.t (semW_and (semT_cmp (opT_cmpG X.sp hk .Lt) (by rfl) (z_slot (by decide +kernel)) (z_slot (by decide +kernel))) (semW_and1 (semT_cmp (opT_cmpG X.sp hk .Gt) (by rfl) (@sem_idx _ _ _ _ _ _ _ _ _ (fun _ _ => rfl) (z_slot (by decide +kernel)) (sem_bin (opT_binG X.sp hk .Add) (sem_int) (sem_bin (opT_binG X.sp hk .Mult) (sem_int) (z_slot (by decide +kernel))))) (sem_int))))) (semSs_cons (z_app (by decide +kernel) (by rfl) (fun _ => rfl) (@sem_tup _ _ _ _ _ _ _ _ (@semA_cons _ _ _ _ _ _ _ _ (fun _ => rfl) (z_slot (by decide +kernel)) (@semA_cons _ _ _ _ _ _ _ _ (fun _ => rfl) (z_slot (by decide +kernel)) (semA_nil))))) (semSs_nil)) (semSs_nil)) (semSs_nil))))) (semSs_cons (z_asg (by decide +kernel) (fun _ _ => rfl) (@sem_lst _ _ _ _ _ _ _ (semA_nil))) (semSs_cons (semS_for (fun _ _ => rfl) (z_r1 X.b_range (by decide +kernel) (fun _ => rfl) (z_slot (by decide +kernel))) (z_gn (by decide +kernel)) (semSs_cons (semS_for (fun _ _ => rfl) (z_r2 X.b_range (by decide +kernel) (fun _ => rfl) (fun _ => rfl) (sem_bin (opT_binG X.sp hk .Add) (z_slot (by decide +kernel)) (sem_int)) (z_slot (by decide +kernel))) (z_gn (by decide +kernel)) (semSs_cons (semS_ite (semT_cmp (opT_cmpG X.sp hk .In) (by rfl) (@sem_tup _ _ _ _ _ _ _ _ (@semA_cons _ _ _ _ _ _ _ _ (fun _ => rfl) (z_slot (by decide +kernel)) (@semA_cons _ _ _ _ _ _ _ _ (fun _ => rfl) (z_slot (by decide +kernel)) (semA_nil)))) (z_slot (by decide +kernel))) (semSs_cons (z_app (by decide +kernel) (by rfl) (fun _ => rfl) (@sem_tup _ _ _ _ _ _ _ _ (@semA_cons _ _ _ _ _ _ _ _ (fun _ => rfl) (z_slot (by decide +kernel)) (@semA_cons _ _ _ _ _ _ _ _ (fun _ => rfl) (z_slot (by decide +kernel)) (semA_nil))))) (semSs_nil)) (semSs_nil)) (semSs_nil))) (semSs_nil))) (semSs_cons (semS_ret (@sem_lst _ _ _ _ _ _ _ (@semA_cons _ _ _ _ _ _ _ _ (fun _ => rfl) (z_slot (by decide +kernel)) (@semA_cons _ _ _ _ _ _ _ _ (fun _ => rfl) (z_slot (by decide +kernel)) (semA_nil))))) (semSs_nil))))))))
theorem t18 (X : Cn L k') (h1 : k' + 1 ≤ k) : SemSs L n18 (defSc s18) k (C8.fnBody s18) b18 :=
  have hk : k' ≤ k := Nat.le_of_succ_le h1
  semSs_cons (semS_ite (SemW.t (semW_and (semT_cmp (opT_cmpG X.sp hk .GtE) (by rfl) (@sem_idx _ _ _ _ _ _ _ _ _ (fun _ _ => rfl) (z_slot (by decide +kernel)) (sem_int)) (sem_int)) (semW_and1 (semT_cmp (opT_cmpG X.sp hk .LtE) (by rfl) (@sem_idx _ _ _ _ _ _ _ _ _ (fun _ _ => rfl) (z_slot (by decide +kernel)) (sem_int)) (sem_int))))) (semSs_cons (semS_ret (z_t (callG (by decide) callT_tuple) X.b_tuple (by decide +kernel) (by decide +kernel) (fun _ => rfl) (fun _ _ => rfl) (@semA_cons _ _ _ _ _ _ _ _ (fun _ => rfl) (z_lc (own := [("k", 2)]) (by decide +kernel) (fun _ _ => rfl) (by rfl) (by decide) (z_r1 X.b_range (by decide +kernel) (fun _ => rfl) (z_slot (by decide +kernel))) (z_gn (by decide +kernel)) (z_c0) (sem_bin (opT_binG X.sp hk .Mod) (z_t (callG (by decide) callT_int) X.b_int (by decide +kernel) (by decide +kernel) (fun _ => rfl) (fun _ _ => rfl) (@semA_cons _ _ _ _ _ _ _ _ (fun _ => rfl) (sem_bin (opT_binG X.sp hk .Add) (z_slot (by decide +kernel)) (@sem_idx _ _ _ _ _ _ _ _ _ (fun _ _ => rfl) (z_slot (by decide +kernel)) (sem_int))) (semA_nil))) (sem_int))) (semA_nil)))) (semSs_nil)) (semSs_nil)) (semSs_cons (semS_ite (semT_cmp (opT_cmpG X.sp hk .Eq) (by rfl) (@sem_idx _ _ _ _ _ _ _ _ _ (fun _ _ => rfl) (z_slot (by decide +kernel)) (sem_int)) (sem_int)) (semSs_cons (semS_ret (z_t (callG (by decide) callT_tuple) X.b_tuple (by decide +kernel) (by decide +kernel) (fun _ => rfl) (fun _ _ => rfl) (@semA_cons _ _ _ _ _ _ _ _ (fun _ => rfl) (z_lc (own := [("k", 2)]) (by decide +kernel) (fun _ _ => rfl) (by rfl) (by decide) (z_r1 X.b_range (by decide +kernel) (fun _ => rfl) (z_slot (by decide +kernel))) (z_gn (by decide +kernel)) (z_c0) (sem_bin (opT_binG X.sp hk .Mult) (sem_bin (opT_binG X.sp hk .Mod) (z_t (callG (by decide) callT_int) X.b_int (by decide +kernel) (by decide +kernel) (fun _ => rfl) (fun _ _ => rfl) (@semA_cons _ _ _ _ _ _ _ _ (fun _ => rfl) (sem_bin (opT_binG X.sp hk .Add) (z_slot (by decide +kernel)) (@sem_idx _ _ _ _ _ _ _ _ _ (fun _ _ => rfl) (z_slot (by decide +kernel)) (sem_int))) (semA_nil))) (sem_int)) (z_t (callG (by decide) callT_int) X.b_int (by decide +kernel) (by decide +kernel) (fun _ => rfl) (fun _ _ => rfl) (@semA_cons _ _ _ _ _ _ _ _ (fun _ => rfl) (sem_cmp (opT_cmpG X.sp hk .NotEq) (by rfl) (z_slot (by decide +kernel)) (sem_bin (opT_binG X.sp hk .Add) (@sem_idx _ _ _ _ _ _ _ _ _ (fun _ _ => rfl) (z_slot (by decide +kernel)) (sem_int)) (sem_int))) (semA_nil))))) (semA_nil)))) (semSs_nil)) (semSs_nil)) (semSs_cons (semS_ite (semT_cmp (opT_cmpG X.sp hk .Eq) (by rfl) (@sem_idx _ _ _ _ _ _ _ _ _ (fun _ _ => rfl) (z_slot (by decide +kernel)) (sem_int)) (sem_int)) (semSs_cons (semS_ret (z_t (callG (by decide) callT_tuple) X.b_tuple (by decide +kernel) (by decide +kernel) (fun _ => rfl) (fun _ _ => rfl) (@semA_cons _ _ _ _ _ _ _ _ (fun _ => rfl) (z_lc (own := [("k", 2)]) (by decide +kernel) (fun _ _ => rfl) (by rfl) (by decide) (z_r1 X.b_range (by decide +kernel) (fun _ => rfl) (z_slot (by decide +kernel))) (z_gn (by decide +kernel)) (z_c0) (z_t (callG (by decide) callT_int) X.b_int (by decide +kernel) (by decide +kernel) (fun _ => rfl) (fun _ _ => rfl) (@semA_cons _ _ _ _ _ _ _ _ (fun _ => rfl) (sem_cmp (opT_cmpG X.sp hk .Eq) (by rfl) (z_slot (by decide +kernel)) (@sem_idx _ _ _ _ _ _ _ _ _ (fun _ _ => rfl) (z_slot (by decide +kernel)) (sem_int))) (semA_nil)))) (semA_nil)))) (semSs_nil)) (semSs_nil)) (semSs_cons (semS_ret (z_t (callG (by decide) callT_tuple) X.b_tuple (by decide +kernel) (by decide +kernel) (fun _ => rfl) (fun _ _ => rfl) (@semA_cons _ _ _ _ _ _ _ _ (fun _ => rfl) (z_lc (own := [("k", 2)]) (by decide +kernel) (fun _ _ => rfl) (by rfl) (by decide) (z_r1 X.b_range (by decide +kernel) (fun _ => rfl) (z_slot (by decide +kernel))) (z_gn (by decide +kernel)) (z_c0) (@sem_idx _ _ _ _ _ _ _ _ _ (fun _ _ => rfl) (z_slot (by decide +kernel)) (sem_bin (opT_binG X.sp hk .Add) (sem_int) (z_slot (by decide +kernel))))) (semA_nil)))) (semSs_nil))))
theorem t19 (X : Cn L k') (h1 : k' + 1 ≤ k) : SemSs L n19 (defSc s19) k (C8.fnBody s19) b19 :=
  have hk : k' ≤ k := Nat.le_of_succ_le h1
  semSs_cons (z_asg (by decide +kernel) (fun _ _ => rfl) (z_call X.c__law_web hk (by decide +kernel) (fun _ => rfl) (fun _ _ => rfl) (@semA_cons _ _ _ _ _ _ _ _ (fun _ => rfl) (z_call X.c__law_digits hk (by decide +kernel) (fun _ => rfl) (fun _ _ => rfl) (@semA_cons _ _ _ _ _ _ _ _ (fun _ => rfl) (z_call X.c__law_cell hk (by decide +kernel) (fun _ => rfl) (fun _ _ => rfl) (@semA_cons _ _ _ _ _ _ _ _ (fun _ => rfl) (z_slot (by decide +kernel)) (@semA_cons _ _ _ _ _ _ _ _ (fun _ => rfl) (z_slot (by decide +kernel)) (semA_nil)))) (@semA_cons _ _ _ _ _ _ _ _ (fun _ => rfl) (sem_bin (opT_binG X.sp hk .Add) (sem_bin (opT_binG X.sp hk .Add) (sem_bin (opT_binG X.sp hk .Add) (@sem_lst _ _ _ _ _ _ _ (@semA_cons _ _ _ _ _ _ _ _ (fun _ => rfl) (sem_int) (semA_nil))) (sem_bin (opT_binG X.sp hk .Mult) (@sem_lst _ _ _ _ _ _ _ (@semA_cons _ _ _ _ _ _ _ _ (fun _ => rfl) (sem_int) (@semA_cons _ _ _ _ _ _ _ _ (fun _ => rfl) (sem_int) (semA_nil)))) (sem_int))) (@sem_lst _ _ _ _ _ _ _ (@semA_cons _ _ _ _ _ _ _ _ (fun _ => rfl) (sem_int) (semA_nil)))) (sem_bin (opT_binG X.sp hk .Mult) (@sem_lst _ _ _ _ _ _ _ (@semA_cons _ _ _ _ _ _ _ _ (fun _ => rfl) (sem_int) (@semA_cons _ _ _ _ _ _ _ _ (fun _ => rfl) (sem_int) (semA_nil)))) (sem_int))) (semA_nil)))) (@semA_cons _ _ _ _ _ _ _ _ (fun _ => rfl) (z_slot (by decide +kernel)) (semA_nil))))) (semSs_cons (z_asg (by decide +kernel) (fun _ _ => rfl) (z_call X.c__law_picture hk (by decide +kernel) (fun _ => rfl) (fun _ _ => rfl) (@semA_cons _ _ _ _ _ _ _ _ (fun _ => rfl) (z_call X.c__law_digits hk (by decide +kernel) (fun _ => rfl) (fun _ _ => rfl) (@semA_cons _ _ _ _ _ _ _ _ (fun _ => rfl) (z_call X.c__law_cell hk (by decide +kernel) (fun _ => rfl) (fun _ _ => rfl) (@semA_cons _ _ _ _ _ _ _ _ (fun _ => rfl) (z_slot (by decide +kernel)) (@semA_cons _ _ _ _ _ _ _ _ (fun _ => rfl) (sem_bin (opT_binG X.sp hk .Add) (z_slot (by decide +kernel)) (sem_int)) (semA_nil)))) (@semA_cons _ _ _ _ _ _ _ _ (fun _ => rfl) (sem_bin (opT_binG X.sp hk .Add) (@sem_lst _ _ _ _ _ _ _ (@semA_cons _ _ _ _ _ _ _ _ (fun _ => rfl) (sem_int) (@semA_cons _ _ _ _ _ _ _ _ (fun _ => rfl) (sem_int) (semA_nil)))) (sem_bin (opT_binG X.sp hk .Mult) (@sem_lst _ _ _ _ _ _ _ (@semA_cons _ _ _ _ _ _ _ _ (fun _ => rfl) (sem_int) (semA_nil))) (sem_int))) (semA_nil)))) (@semA_cons _ _ _ _ _ _ _ _ (fun _ => rfl) (sem_keep (@sem_idx _ _ _ _ _ _ _ _ _ (fun _ _ => rfl) (z_slot (by decide +kernel)) (sem_int))) (semA_nil))))) (semSs_cons (semS_ret (@sem_lst _ _ _ _ _ _ _ (@semA_cons _ _ _ _ _ _ _ _ (fun _ => rfl) (sem_keep (@sem_idx _ _ _ _ _ _ _ _ _ (fun _ _ => rfl) (z_slot (by decide +kernel)) (sem_int))) (@semA_cons _ _ _ _ _ _ _ _ (fun _ => rfl) (sem_keep (@sem_idx _ _ _ _ _ _ _ _ _ (fun _ _ => rfl) (z_slot (by decide +kernel)) (sem_int))) (@semA_cons _ _ _ _ _ _ _ _ (fun _ => rfl) (z_slot (by decide +kernel)) (semA_nil)))))) (semSs_nil)))
theorem t20 (X : Cn L k') (h1 : k' + 1 ≤ k) : SemSs L n20 (defSc s20) k (C8.fnBody s20) b20 :=
  have hk : k' ≤ k := Nat.le_of_succ_le h1
  semSs_cons (z_asgLc (own := [("k", 4)]) (by decide +kernel) (by decide +kernel)  (by decide +kernel) (fun _ _ => rfl) (by rfl) (by decide) (z_r1 X.b_range (by decide +kernel) (fun _ => rfl) (z_slot (by decide +kernel))) (z_gn (by decide +kernel)) (z_c0) (@sem_lst _ _ _ _ _ _ _ (semA_nil))) (semSs_cons (semS_for (fun _ _ => rfl) (semI_lst (z_slot (by decide +kernel))) (z_gn (by decide +kernel)) (semSs_cons (z_app2 (by decide +kernel) (fun _ _ => rfl) (by rfl) (fun _ => rfl) (fun _ => rfl) (@sem_idx _ _ _ _ _ _ _ _ _ (fun _ _ => rfl) (z_slot (by decide +kernel)) (sem_int)) (@sem_idx _ _ _ _ _ _ _ _ _ (fun _ _ => rfl) (z_slot (by decide +kernel)) (sem_int))) (semSs_cons (z_app2 (by decide +kernel) (fun _ _ => rfl) (by rfl) (fun _ => rfl) (fun _ => rfl) (@sem_idx _ _ _ _ _ _ _ _ _ (fun _ _ => rfl) (z_slot (by decide +kernel)) (sem_int)) (@sem_idx _ _ _ _ _ _ _ _ _ (fun _ _ => rfl) (z_slot (by decide +kernel)) (sem_int))) (semSs_nil)))) (semSs_cons (semS_ret (z_lc (own := [("row", 5)]) (by decide +kernel) (fun _ _ => rfl) (by rfl) (by decide) (semI_lst (z_slot (by decide +kernel))) (z_gn (by decide +kernel)) (z_c0) (z_b (callG (by decide) callT_sorted) X.b_sorted (by decide +kernel) (by decide +kernel) (fun _ => rfl) (fun _ _ => rfl) (@semA_cons _ _ _ _ _ _ _ _ (fun _ => rfl) (z_slot (by decide +kernel)) (semA_nil))))) (semSs_nil)))
theorem t21 (X : Cn L k') (h1 : k' + 1 ≤ k) : SemSs L n21 (defSc s21) k (C8.fnBody s21) b21 :=
  have hk : k' ≤ k := Nat.le_of_succ_le h1
  semSs_cons (z_asg (by decide +kernel) (fun _ _ => rfl) (@sem_lst _ _ _ _ _ _ _ (semA_nil))) (semSs_cons (semS_for (fun _ _ => rfl) (z_r1 X.b_range (by decide +kernel) (fun _ => rfl) (z_b (callT_lenG X.sp h1) X.b_len (by decide +kernel) (by decide +kernel) (fun _ => rfl) (fun _ _ => rfl) (@semA_cons _ _ _ _ _ _ _ _ (fun _ => rfl) (z_slot (by decide +kernel)) (semA_nil)))) (z_gn (by decide +kernel)) (semSs_cons (z_asg (by decide +kernel) (fun _ _ => rfl) (@sem_idx _ _ _ _ _ _ _ _ _ (fun _ _ => rfl) (z_slot (by decide +kernel)) (z_slot (by decide +kernel)))) (semSs_cons (semS_ite (semT_cmp (opT_cmpG X.sp hk .Gt) (by rfl) (z_slot (by decide +kernel)) (sem_int)) (semSs_cons (z_app (by decide +kernel) (by rfl) (fun _ => rfl) (@sem_idx _ _ _ _ _ _ _ _ _ (fun _ _ => rfl) (@sem_lst _ _ _ _ _ _ _ (@semA_cons _ _ _ _ _ _ _ _ (fun _ => rfl) (sem_int) (@semA_cons _ _ _ _ _ _ _ _ (fun _ => rfl) (sem_int) (@semA_cons _ _ _ _ _ _ _ _ (fun _ => rfl) (sem_int) (semA_nil))))) (z_slot (by decide +kernel)))) (semSs_nil)) (semSs_cons (z_asgLc (own := [("other", 7)]) (by decide +kernel) (by decide +kernel)  (by decide +kernel) (fun _ _ => rfl) (by rfl) (by decide) (semI_lst (@sem_idx _ _ _ _ _ _ _ _ _ (fun _ _ => rfl) (z_slot (by decide +kernel)) (z_slot (by decide +kernel)))) (z_gn (by decide +kernel)) (z_c1 (semT_cmp (opT_cmpG X.sp hk .Eq) (by rfl) (@sem_idx _ _ _ _ _ _ _ _ _ (fun _ _ => rfl) (z_slot (by decide +kernel)) (z_slot (by decide +kernel))) (sem_int))) (z_slot (by decide +kernel))) (semSs_cons (z_app (by decide +kernel) (by rfl) (fun _ => rfl) (z_t (callG (by decide) callT_int) X.b_int (by decide +kernel) (by decide +kernel) (fun _ => rfl) (fun _ _ => rfl) (@semA_cons _ _ _ _ _ _ _ _ (fun _ => rfl) (sem_or (sem_cmp (opT_cmpG X.sp hk .Gt) (by rfl) (z_b (callT_lenG X.sp h1) X.b_len (by decide +kernel) (by decide +kernel) (fun _ => rfl) (fun _ _ => rfl) (@semA_cons _ _ _ _ _ _ _ _ (fun _ => rfl) (z_slot (by decide +kernel)) (semA_nil))) (sem_int)) (sem_one (sem_cmp (opT_cmpG X.sp hk .In) (by rfl) (z_slot (by decide +kernel)) (z_slot (by decide +kernel))))) (semA_nil)))) (semSs_nil)))) (semSs_nil)))) (semSs_cons (semS_ret (z_t (callG (by decide) callT_tuple) X.b_tuple (by decide +kernel) (by decide +kernel) (fun _ => rfl) (fun _ _ => rfl) (@semA_cons _ _ _ _ _ _ _ _ (fun _ => rfl) (z_slot (by decide +kernel)) (semA_nil)))) (semSs_nil)))
theorem t22 (X : Cn L k') (h1 : k' + 1 ≤ k) : SemSs L n22 (defSc s22) k (C8.fnBody s22) b22 :=
  have hk : k' ≤ k := Nat.le_of_succ_le h1
  semSs_cons (semS_ret (sem_and (z_isi X.b_isinstance X.b_tuple (by decide +kernel) (by decide +kernel) (by intro c h; cases h) (fun _ => rfl) (z_slot (by decide +kernel))) (sem_and (sem_cmp (opT_cmpG X.sp hk .Eq) (by rfl) (z_b (callT_lenG X.sp h1) X.b_len (by decide +kernel) (by decide +kernel) (fun _ => rfl) (fun _ _ => rfl) (@semA_cons _ _ _ _ _ _ _ _ (fun _ => rfl) (z_slot (by decide +kernel)) (semA_nil))) (z_slot (by decide +kernel))) (sem_one (sem_cmp (opT_cmpG X.sp hk .Eq) (by rfl) (z_b (callT_lenG X.sp h1) X.b_len (by decide +kernel) (by decide +kernel) (fun _ => rfl) (fun _ _ => rfl) (@semA_cons _ _ _ _ _ _ _ _ (fun _ => rfl) (z_lc (own := [("x", 2)]) (by decide +kernel) (fun _ _ => rfl) (by rfl) (by decide) (semI_lst (z_slot (by decide +kernel))) (z_gn (by decide +kernel)) (z_c1 (semT_not (semT_plain (z_call X.c__law_whole hk (by decide +kernel) (fun _ => rfl) (fun _ _ => rfl) (@semA_cons _ _ _ _ _ _ _ _ (fun _ => rfl) (z_slot (by decide +kernel)) (semA_nil))) (fun _ _ => rfl)))) (z_slot (by decide +kernel))) (semA_nil))) (sem_int)))))) (semSs_nil)
theorem t23 (X : Cn L k') (h1 : k' + 1 ≤ k) : SemSs L n23 (defSc s23) k (C8.fnBody s23) b23 :=
  have hk : k' ≤ k := Nat.le_of_succ_le h1
  semSs_cons (semS_ite (SemW.t (semW_or (semT_not (semT_plain (z_isiC (X.ins 1) X.b_isinstance X.m_Scene (by decide +kernel) (fun _ => rfl) (z_slot (by decide +kernel))) (fun _ _ => rfl))) (semW_or1 (semT_not (semT_cmp (opT_cmpG X.sp hk .Eq) (by rfl) (z_fld X.ok X.nm (by rfl) (fun _ => rfl) (z_slot (by decide +kernel))) (z_slot (by decide +kernel))))))) (semSs_cons (semS_ret (sem_bl)) (semSs_nil)) (semSs_nil)) (semSs_cons (semS_ret (sem_and (z_call X.c__law_row hk (by decide +kernel) (fun _ => rfl) (fun _ _ => rfl) (@semA_cons _ _ _ _ _ _ _ _ (fun _ => rfl) (z_fld X.ok X.nm (by rfl) (fun _ => rfl) (z_slot (by decide +kernel))) (@semA_cons _ _ _ _ _ _ _ _ (fun _ => rfl) (z_b (callT_lenG X.sp h1) X.b_len (by decide +kernel) (by decide +kernel) (fun _ => rfl) (fun _ _ => rfl) (@semA_cons _ _ _ _ _ _ _ _ (fun _ => rfl) (z_slot (by decide +kernel)) (semA_nil))) (semA_nil)))) (sem_one (sem_cmp (opT_cmpG X.sp hk .Eq) (by rfl) (z_fld X.ok X.nm (by rfl) (fun _ => rfl) (z_slot (by decide +kernel))) (z_t (callG (by decide) callT_tuple) X.b_tuple (by decide +kernel) (by decide +kernel) (fun _ => rfl) (fun _ _ => rfl) (@semA_cons _ _ _ _ _ _ _ _ (fun _ => rfl) (z_slot (by decide +kernel)) (semA_nil))))))) (semSs_nil))
theorem t24 (X : Cn L k') (h1 : k' + 1 ≤ k) : SemSs L n24 (defSc s24) k (C8.fnBody s24) b24 :=
  have hk : k' ≤ k := Nat.le_of_succ_le h1
  semSs_cons (z_asg (by decide +kernel) (fun _ _ => rfl) (z_call X.c__law_scene hk (by decide +kernel) (fun _ => rfl) (fun _ _ => rfl) (@semA_cons _ _ _ _ _ _ _ _ (fun _ => rfl) (z_slot (by decide +kernel)) (@semA_cons _ _ _ _ _ _ _ _ (fun _ => rfl) (sem_int) (@semA_cons _ _ _ _ _ _ _ _ (fun _ => rfl) (sem_int) (semA_nil)))))) (semSs_cons (z_asg (by decide +kernel) (fun _ _ => rfl) (z_call X.c__law_scene hk (by decide +kernel) (fun _ => rfl) (fun _ _ => rfl) (@semA_cons _ _ _ _ _ _ _ _ (fun _ => rfl) (z_slot (by decide +kernel)) (@semA_cons _ _ _ _ _ _ _ _ (fun _ => rfl) (sem_int) (@semA_cons _ _ _ _ _ _ _ _ (fun _ => rfl) (sem_int) (semA_nil)))))) (semSs_cons (z_asg (by decide +kernel) (fun _ _ => rfl) (z_call X.c__law_digits hk (by decide +kernel) (fun _ => rfl) (fun _ _ => rfl) (@semA_cons _ _ _ _ _ _ _ _ (fun _ => rfl) (z_call X.c__law_cell hk (by decide +kernel) (fun _ => rfl) (fun _ _ => rfl) (@semA_cons _ _ _ _ _ _ _ _ (fun _ => rfl) (z_slot (by decide +kernel)) (@semA_cons _ _ _ _ _ _ _ _ (fun _ => rfl) (sem_int) (semA_nil)))) (@semA_cons _ _ _ _ _ _ _ _ (fun _ => rfl) (sem_bin (opT_binG X.sp hk .Add) (@sem_lst _ _ _ _ _ _ _ (@semA_cons _ _ _ _ _ _ _ _ (fun _ => rfl) (sem_int) (@semA_cons _ _ _ _ _ _ _ _ (fun _ => rfl) (sem_int) (semA_nil)))) (sem_bin (opT_binG X.sp hk .Mult) (@sem_lst _ _ _ _ _ _ _ (@semA_cons _ _ _ _ _ _ _ _ (fun _ => rfl) (sem_int) (semA_nil))) (sem_int))) (semA_nil))))) (semSs_cons (z_asg (by decide +kernel) (fun _ _ => rfl) (sem_bin (opT_binG X.sp hk .Mult) (@sem_idx _ _ _ _ _ _ _ _ _ (fun _ _ => rfl) (z_slot (by decide +kernel)) (sem_int)) (z_t (callG (by decide) callT_int) X.b_int (by decide +kernel) (by decide +kernel) (fun _ => rfl) (fun _ _ => rfl) (@semA_cons _ _ _ _ _ _ _ _ (fun _ => rfl) (sem_cmp (opT_cmpG X.sp hk .Gt) (by rfl) (@sem_idx _ _ _ _ _ _ _ _ _ (fun _ _ => rfl) (z_slot (by decide +kernel)) (sem_int)) (sem_int)) (semA_nil))))) (semSs_cons (z_asgLc (own := [("line", 15)]) (by decide +kernel) (by decide +kernel)  (by decide +kernel) (fun _ _ => rfl) (by rfl) (by decide) (semI_lst (sem_keep (@sem_idx _ _ _ _ _ _ _ _ _ (fun _ _ => rfl) (z_slot (by decide +kernel)) (sem_int)))) (z_gn (by decide +kernel)) (z_c1 (semT_cmp (opT_cmpG X.sp hk .Gt) (by rfl) (z_slot (by decide +kernel)) (sem_int))) (z_slot (by decide +kernel))) (semSs_cons (z_asg (by decide +kernel) (fun _ _ => rfl) (sem_sl (@sem_idx _ _ _ _ _ _ _ _ _ (fun _ _ => rfl) (z_slot (by decide +kernel)) (sem_int)) (rfl) (⟨(by intro h; cases h), z_slot (by decide +kernel)⟩))) (semSs_cons (z_asg (by decide +kernel) (fun _ _ => rfl) (z_call X.c__law_near hk (by decide +kernel) (fun _ => rfl) (fun _ _ => rfl) (@semA_cons _ _ _ _ _ _ _ _ (fun _ => rfl) (z_slot (by decide +kernel)) (@semA_cons _ _ _ _ _ _ _ _ (fun _ => rfl) (z_slot (by decide +kernel)) (semA_nil))))) (semSs_cons (z_asg (by decide +kernel) (fun _ _ => rfl) (z_mk X.k_Web h1 (by decide +kernel) (fun _ => rfl) (fun _ _ => rfl) (@semA_cons _ _ _ _ _ _ _ _ (fun _ => rfl) (z_slot (by decide +kernel)) (@semA_cons _ _ _ _ _ _ _ _ (fun _ => rfl) (z_slot (by decide +kernel)) (semA_nil))))) (semSs_cons (z_asg (by decide +kernel) (fun _ _ => rfl) (z_mk X.k_Scene h1 (by decide +kernel) (fun _ => rfl) (fun _ _ => rfl) (@semA_cons _ _ _ _ _ _ _ _ (fun _ => rfl) (z_slot (by decide +kernel)) (@semA_cons _ _ _ _ _ _ _ _ (fun _ => rfl) (z_slot (by decide +kernel)) (semA_nil))))) (semSs_cons (z_asg (by decide +kernel) (fun _ _ => rfl) (sem_bin (opT_binG X.sp hk .Add) (z_lc (own := [("k", 17)]) (by decide +kernel) (fun _ _ => rfl) (by rfl) (by decide) (z_r1 X.b_range (by decide +kernel) (fun _ => rfl) (@sem_idx _ _ _ _ _ _ _ _ _ (fun _ _ => rfl) (z_slot (by decide +kernel)) (sem_int))) (z_gn (by decide +kernel)) (z_c0) (sem_bin (opT_binG X.sp hk .Sub) (@sem_idx _ _ _ _ _ _ _ _ _ (fun _ _ => rfl) (z_slot (by decide +kernel)) (sem_bin (opT_binG X.sp hk .Add) (sem_int) (z_slot (by decide +kernel)))) (sem_int))) (sem_sl (@sem_lst _ _ _ _ _ _ _ (@semA_cons _ _ _ _ _ _ _ _ (fun _ => rfl) (sem_bin (opT_binG X.sp hk .Pow) (sem_int) (sem_int)) (@semA_cons _ _ _ _ _ _ _ _ (fun _ => rfl) (sem_bin (opT_binG X.sp hk .Sub) (sem_int) (sem_bin (opT_binG X.sp hk .Pow) (sem_int) (sem_int))) (semA_nil)))) (rfl) (⟨(by intro h; cases h), sem_bin (opT_binG X.sp hk .Mod) (z_t (callG (by decide) callT_int) X.b_int (by decide +kernel) (by decide +kernel) (fun _ => rfl) (fun _ _ => rfl) (@semA_cons _ _ _ _ _ _ _ _ (fun _ => rfl) (@sem_idx _ _ _ _ _ _ _ _ _ (fun _ _ => rfl) (z_slot (by decide +kernel)) (sem_int)) (semA_nil))) (sem_int)⟩)))) (semSs_cons (z_asg (by decide +kernel) (fun _ _ => rfl) (z_t (callG (by decide) callT_list) X.b_list (by decide +kernel) (by decide +kernel) (fun _ => rfl) (fun _ _ => rfl) (@semA_cons _ _ _ _ _ _ _ _ (fun _ => rfl) (z_slot (by decide +kernel)) (semA_nil)))) (semSs_cons (semS_ite (SemW.t (semW_or (semT_not (semT_plain (z_call X.c__law_is_scene hk (by decide +kernel) (fun _ => rfl) (fun _ _ => rfl) (@semA_cons _ _ _ _ _ _ _ _ (fun _ => rfl) (z_call X.c_step hk (by decide +kernel) (fun _ => rfl) (fun _ _ => rfl) (@semA_cons _ _ _ _ _ _ _ _ (fun _ => rfl) (z_slot (by decide +kernel)) (@semA_cons _ _ _ _ _ _ _ _ (fun _ => rfl) (z_slot (by decide +kernel)) (semA_nil)))) (@semA_cons _ _ _ _ _ _ _ _ (fun _ => rfl) (z_slot (by decide +kernel)) (@semA_cons _ _ _ _ _ _ _ _ (fun _ => rfl) (z_call X.c__law_step hk (by decide +kernel) (fun _ => rfl) (fun _ _ => rfl) (@semA_cons _ _ _ _ _ _ _ _ (fun _ => rfl) (z_slot (by decide +kernel)) (@semA_cons _ _ _ _ _ _ _ _ (fun _ => rfl) (z_slot (by decide +kernel)) (@semA_cons _ _ _ _ _ _ _ _ (fun _ => rfl) (z_slot (by decide +kernel)) (semA_nil))))) (semA_nil))))) (fun _ _ => rfl))) (semW_or1 (semT_cmp (opT_cmpG X.sp hk .NotEq) (by rfl) (z_slot (by decide +kernel)) (z_slot (by decide +kernel)))))) (semSs_cons (semS_ret (sem_bl)) (semSs_nil)) (semSs_nil)) (semSs_cons (z_asg (by decide +kernel) (fun _ _ => rfl) (z_mk X.k_Web h1 (by decide +kernel) (fun _ => rfl) (fun _ _ => rfl) (@semA_cons _ _ _ _ _ _ _ _ (fun _ => rfl) (sem_keep (@sem_idx _ _ _ _ _ _ _ _ _ (fun _ _ => rfl) (z_slot (by decide +kernel)) (sem_int))) (@semA_cons _ _ _ _ _ _ _ _ (fun _ => rfl) (sem_keep (@sem_idx _ _ _ _ _ _ _ _ _ (fun _ _ => rfl) (z_slot (by decide +kernel)) (sem_int))) (semA_nil))))) (semSs_cons (z_asg (by decide +kernel) (fun _ _ => rfl) (z_mk X.k_Scene h1 (by decide +kernel) (fun _ => rfl) (fun _ _ => rfl) (@semA_cons _ _ _ _ _ _ _ _ (fun _ => rfl) (z_slot (by decide +kernel)) (@semA_cons _ _ _ _ _ _ _ _ (fun _ => rfl) (z_t (callG (by decide) callT_list) X.b_list (by decide +kernel) (by decide +kernel) (fun _ => rfl) (fun _ _ => rfl) (@semA_cons _ _ _ _ _ _ _ _ (fun _ => rfl) (sem_keep (@sem_idx _ _ _ _ _ _ _ _ _ (fun _ _ => rfl) (z_slot (by decide +kernel)) (sem_int))) (semA_nil))) (semA_nil))))) (semSs_cons (semS_ite (semT_not (semT_plain (z_call X.c__law_is_scene hk (by decide +kernel) (fun _ => rfl) (fun _ _ => rfl) (@semA_cons _ _ _ _ _ _ _ _ (fun _ => rfl) (z_callD X.d_step_1 hk (by decide +kernel) (fun _ => rfl) (fun _ _ => rfl) (@semA_cons _ _ _ _ _ _ _ _ (fun _ => rfl) (z_slot (by decide +kernel)) (semA_nil))) (@semA_cons _ _ _ _ _ _ _ _ (fun _ => rfl) (z_slot (by decide +kernel)) (@semA_cons _ _ _ _ _ _ _ _ (fun _ => rfl) (z_call X.c__law_step hk (by decide +kernel) (fun _ => rfl) (fun _ _ => rfl) (@semA_cons _ _ _ _ _ _ _ _ (fun _ => rfl) (z_call X.c__law_near hk (by decide +kernel) (fun _ => rfl) (fun _ _ => rfl) (@semA_cons _ _ _ _ _ _ _ _ (fun _ => rfl) (sem_keep (@sem_idx _ _ _ _ _ _ _ _ _ (fun _ _ => rfl) (z_slot (by decide +kernel)) (sem_int))) (@semA_cons _ _ _ _ _ _ _ _ (fun _ => rfl) (sem_keep (@sem_idx _ _ _ _ _ _ _ _ _ (fun _ _ => rfl) (z_slot (by decide +kernel)) (sem_int))) (semA_nil)))) (@semA_cons _ _ _ _ _ _ _ _ (fun _ => rfl) (sem_keep (@sem_idx _ _ _ _ _ _ _ _ _ (fun _ _ => rfl) (z_slot (by decide +kernel)) (sem_int))) (@semA_cons _ _ _ _ _ _ _ _ (fun _ => rfl) (@sem_lst _ _ _ _ _ _ _ (semA_nil)) (semA_nil))))) (semA_nil))))) (fun _ _ => rfl))) (semSs_cons (semS_ret (sem_bl)) (semSs_nil)) (semSs_nil)) (semSs_cons (semS_ite (semT_not (semT_plain (z_call X.c__law_is_scene hk (by decide +kernel) (fun _ => rfl) (fun _ _ => rfl) (@semA_cons _ _ _ _ _ _ _ _ (fun _ => rfl) (z_call X.c_step hk (by decide +kernel) (fun _ => rfl) (fun _ _ => rfl) (@semA_cons _ _ _ _ _ _ _ _ (fun _ => rfl) (z_slot (by decide +kernel)) (@semA_cons _ _ _ _ _ _ _ _ (fun _ => rfl) (z_t (callG (by decide) callT_tuple) X.b_tuple (by decide +kernel) (by decide +kernel) (fun _ => rfl) (fun _ _ => rfl) (@semA_cons _ _ _ _ _ _ _ _ (fun _ => rfl) (sem_bin (opT_binG X.sp hk .Add) (z_slot (by decide +kernel)) (z_slot (by decide +kernel))) (semA_nil))) (semA_nil)))) (@semA_cons _ _ _ _ _ _ _ _ (fun _ => rfl) (z_slot (by decide +kernel)) (@semA_cons _ _ _ _ _ _ _ _ (fun _ => rfl) (z_call X.c__law_step hk (by decide +kernel) (fun _ => rfl) (fun _ _ => rfl) (@semA_cons _ _ _ _ _ _ _ _ (fun _ => rfl) (z_slot (by decide +kernel)) (@semA_cons _ _ _ _ _ _ _ _ (fun _ => rfl) (z_slot (by decide +kernel)) (@semA_cons _ _ _ _ _ _ _ _ (fun _ => rfl) (z_slot (by decide +kernel)) (semA_nil))))) (semA_nil))))) (fun _ _ => rfl))) (semSs_cons (semS_ret (sem_bl)) (semSs_nil)) (semSs_nil)) (semSs_cons (semS_ite (semT_not (semT_plain (z_call X.c__law_is_scene hk (by decide +kernel) (fun _ => rfl) (fun _ _ => rfl) (@semA_cons _ _ _ _ _ _ _ _ (fun _ => rfl) (z_callD X.d_step_1 hk (by decide +kernel) (fun _ => rfl) (fun _ _ => rfl) (@semA_cons _ _ _ _ _ _ _ _ (fun _ => rfl) (z_slot (by decide +kernel)) (semA_nil))) (@semA_cons _ _ _ _ _ _ _ _ (fun _ => rfl) (z_slot (by decide +kernel)) (@semA_cons _ _ _ _ _ _ _ _ (fun _ => rfl) (z_call X.c__law_step hk (by decide +kernel) (fun _ => rfl) (fun _ _ => rfl) (@semA_cons _ _ _ _ _ _ _ _ (fun _ => rfl) (z_slot (by decide +kernel)) (@semA_cons _ _ _ _ _ _ _ _ (fun _ => rfl) (z_slot (by decide +kernel)) (@semA_cons _ _ _ _ _ _ _ _ (fun _ => rfl) (@sem_lst _ _ _ _ _ _ _ (semA_nil)) (semA_nil))))) (semA_nil))))) (fun _ _ => rfl))) (semSs_cons (semS_ret (sem_bl)) (semSs_nil)) (semSs_nil)) (semSs_cons (z_asgLc (own := [("place", 16)]) (by decide +kernel) (by decide +kernel)  (by decide +kernel) (fun _ _ => rfl) (by rfl) (by decide) (z_r1 X.b_range (by decide +kernel) (fun _ => rfl) (z_slot (by decide +kernel))) (z_gn (by decide +kernel)) (z_c0) (z_slot (by decide +kernel))) (semSs_cons (semS_ite (semT_not (semT_plain (z_call X.c__law_is_scene hk (by decide +kernel) (fun _ => rfl) (fun _ _ => rfl) (@semA_cons _ _ _ _ _ _ _ _ (fun _ => rfl) (z_call X.c_step hk (by decide +kernel) (fun _ => rfl) (fun _ _ => rfl) (@semA_cons _ _ _ _ _ _ _ _ (fun _ => rfl) (z_slot (by decide +kernel)) (@semA_cons _ _ _ _ _ _ _ _ (fun _ => rfl) (z_slot (by decide +kernel)) (semA_nil)))) (@semA_cons _ _ _ _ _ _ _ _ (fun _ => rfl) (z_slot (by decide +kernel)) (@semA_cons _ _ _ _ _ _ _ _ (fun _ => rfl) (z_lc (own := [("state", 18)]) (by decide +kernel) (fun _ _ => rfl) (by rfl) (by decide) (semI_lst (z_slot (by decide +kernel))) (z_gn (by decide +kernel)) (z_c0) (sem_bin (opT_binG X.sp hk .Mod) (z_t (callG (by decide) callT_int) X.b_int (by decide +kernel) (by decide +kernel) (fun _ => rfl) (fun _ _ => rfl) (@semA_cons _ _ _ _ _ _ _ _ (fun _ => rfl) (sem_bin (opT_binG X.sp hk .Add) (z_slot (by decide +kernel)) (sem_int)) (semA_nil))) (sem_int))) (semA_nil))))) (fun _ _ => rfl))) (semSs_cons (semS_ret (sem_bl)) (semSs_nil)) (semSs_nil)) (semSs_cons (semS_ret (z_call X.c__law_is_scene hk (by decide +kernel) (fun _ => rfl) (fun _ _ => rfl) (@semA_cons _ _ _ _ _ _ _ _ (fun _ => rfl) (z_slot (by decide +kernel)) (@semA_cons _ _ _ _ _ _ _ _ (fun _ => rfl) (z_slot (by decide +kernel)) (@semA_cons _ _ _ _ _ _ _ _ (fun _ => rfl) (z_slot (by decide +kernel)) (semA_nil)))))) (semSs_nil))))))))))))))))))))
end
end P5

namespace P5
open PySem PySem.Spec PyProof.Rows L2 Z
section
variable {P : Program} {w : World} {K : PySem.W.Frag} {mg : Str → Option Value} {base : Heap}
def Tb (K : PySem.W.Frag) (C0 C1 : Addr) : Tab := ⟨K, fun c => match c with | 0 => C0 | 1 => C1 | _ => C0, names⟩
structure Facts (K : PySem.W.Frag) (mg : Str → Option Value) (C0 C1 a0 a1 a2 a3 a4 a5 a6 a7 a8 a9 a10 a11 a12 a13 a14 a15 a16 a17 a18 a19 a20 a21 a22 a23 a24 : Addr) (d0 d1 d2 d3 d4 d5 d6 d7 d8 d9 d10 d11 d12 d13 d14 d15 d16 d17 d18 d19 d20 d21 d22 d23 d24 : FuncData) : Prop where
  at0 : At K mg "places_of" s0 q0 a0 d0
  at1 : At K mg "near_masks" s1 q1 a1 d1
  at2 : At K mg "spread" s2 q2 a2 d2
  at5 : At K mg "check_lines" s5 q5 a5 d5
  at8 : At K mg "check_picture" s8 q8 a8 d8
  at9 : At K mg "masks_of_scene" s9 q9 a9 d9
  at10 : At K mg "scene_of_masks" s10 q10 a10 d10
  at11 : At K mg "poked_mask" s11 q11 a11 d11
  at12 : At K mg "next_masks" s12 q12 a12 d12
  at13 : At K mg "step" s13 q13 a13 d13
  at14 : At K mg "_law_whole" s14 q14 a14 d14
  at15 : At K mg "_law_cell" s15 q15 a15 d15
  at16 : At K mg "_law_digits" s16 q16 a16 d16
  at17 : At K mg "_law_web" s17 q17 a17 d17
  at18 : At K mg "_law_picture" s18 q18 a18 d18
  at19 : At K mg "_law_scene" s19 q19 a19 d19
  at20 : At K mg "_law_near" s20 q20 a20 d20
  at21 : At K mg "_law_step" s21 q21 a21 d21
  at22 : At K mg "_law_row" s22 q22 a22 d22
  at23 : At K mg "_law_is_scene" s23 q23 a23 d23
  at24 : At K mg "law" s24 q24 a24 d24
  at3 : MtAt K C0 "__init__" "Web.__init__" s3 q3 a3 d3
  at4 : MtAt K C0 "__eq__" "Web.__eq__" s4 q4 a4 d4
  at6 : MtAt K C1 "__init__" "Scene.__init__" s6 q6 a6 d6
  at7 : MtAt K C1 "__eq__" "Scene.__eq__" s7 q7 a7 d7
  bd13_1 : ∃ ds, Binds K d13 q13 ds ∧ DflOk K [.tup []] ds
  cl0 : Cls K C0
  na0 : ∀ x ∈ names, NoAttr K C0 x
  in0 : C8.InsC K C0
  mk0 : PySem.W.makesIn K C0 = true
  kc0 : PySem.W.keepIn K (.ref C0) = true
  mc0 : mg "Web" = some (.ref C0)
  sf0 : PySem.W.selfFirst K C0 = true
  cl1 : Cls K C1
  na1 : ∀ x ∈ names, NoAttr K C1 x
  in1 : C8.InsC K C1
  mk1 : PySem.W.makesIn K C1 = true
  kc1 : PySem.W.keepIn K (.ref C1) = true
  mc1 : mg "Scene" = some (.ref C1)
  sf1 : PySem.W.selfFirst K C1 = true
  b_bool : mg "bool" = none
  b_enumerate : mg "enumerate" = none
  b_int : mg "int" = none
  b_isinstance : mg "isinstance" = none
  b_len : mg "len" = none
  b_list : mg "list" = none
  b_max : mg "max" = none
  b_min : mg "min" = none
  b_range : mg "range" = none
  b_set : mg "set" = none
  b_sorted : mg "sorted" = none
  b_tuple : mg "tuple" = none
variable {C0 C1 a0 a1 a2 a3 a4 a5 a6 a7 a8 a9 a10 a11 a12 a13 a14 a15 a16 a17 a18 a19 a20 a21 a22 a23 a24 : Addr} {d0 d1 d2 d3 d4 d5 d6 d7 d8 d9 d10 d11 d12 d13 d14 d15 d16 d17 d18 d19 d20 d21 d22 d23 d24 : FuncData}
noncomputable def Ld (P : Program) (w : World) (base : Heap) (mg : Str → Option Value) (T : Tab) (wf d : Nat) : Law := ⟨P, w, base, mg, T, Gn wf d⟩
theorem okk (F : Facts K mg C0 C1 a0 a1 a2 a3 a4 a5 a6 a7 a8 a9 a10 a11 a12 a13 a14 a15 a16 a17 a18 a19 a20 a21 a22 a23 a24 d0 d1 d2 d3 d4 d5 d6 d7 d8 d9 d10 d11 d12 d13 d14 d15 d16 d17 d18 d19 d20 d21 d22 d23 d24) (wf d : Nat) : LawOk (Ld P w base mg (Tb K C0 C1) wf d) where
  nm := by show names.Nodup; decide +kernel
  cls := fun c => match c with
  | 0 => F.cl0
  | 1 => F.cl1
  | _ + 2 => F.cl0
  na := fun c => match c with
  | 0 => F.na0
  | 1 => F.na1
  | _ + 2 => F.na0
theorem cn (F : Facts K mg C0 C1 a0 a1 a2 a3 a4 a5 a6 a7 a8 a9 a10 a11 a12 a13 a14 a15 a16 a17 a18 a19 a20 a21 a22 a23 a24 d0 d1 d2 d3 d4 d5 d6 d7 d8 d9 d10 d11 d12 d13 d14 d15 d16 d17 d18 d19 d20 d21 d22 d23 d24) (wf : Nat) : ∀ d, Cn (Ld P w base mg (Tb K C0 C1) wf d) (2 * d)
  | 0 => {
      ok := okk F wf 0
      sp := ⟨fun c s f h => (by cases h), fun c op f h => (by cases h)⟩
      ins := fun c => match c with
      | 0 => F.in0
      | 1 => F.in1
      | _ + 2 => F.in0
      nm := rfl
      b_bool := F.b_bool
      b_enumerate := F.b_enumerate
      b_int := F.b_int
      b_isinstance := F.b_isinstance
      b_len := F.b_len
      b_list := F.b_list
      b_max := F.b_max
      b_min := F.b_min
      b_range := F.b_range
      b_set := F.b_set
      b_sorted := F.b_sorted
      b_tuple := F.b_tuple
      m_Web := F.mc0
      m_Scene := F.mc1
      k_Web := F.at3.mak F.mk0 F.kc0 F.mc0 init_none
      k_Scene := F.at6.mak F.mk1 F.kc1 F.mc1 init_none
      c_places_of := F.at0.cal fn_none
      c_near_masks := F.at1.cal fn_none
      c_spread := F.at2.cal fn_none
      c_check_lines := F.at5.cal fn_none
      c_check_picture := F.at8.cal fn_none
      c_masks_of_scene := F.at9.cal fn_none
      c_scene_of_masks := F.at10.cal fn_none
      c_poked_mask := F.at11.cal fn_none
      c_next_masks := F.at12.cal fn_none
      c_step := F.at13.cal fn_none
      c__law_whole := F.at14.cal fn_none
      c__law_cell := F.at15.cal fn_none
      c__law_digits := F.at16.cal fn_none
      c__law_web := F.at17.cal fn_none
      c__law_picture := F.at18.cal fn_none
      c__law_scene := F.at19.cal fn_none
      c__law_near := F.at20.cal fn_none
      c__law_step := F.at21.cal fn_none
      c__law_row := F.at22.cal fn_none
      c__law_is_scene := F.at23.cal fn_none
      d_step_1 := .of F.at13 F.bd13_1 fn_none }
  | d + 1 => {
      ok := okk F wf (d + 1)
      sp := {
       own := fun c s f h => by
        have h' : spc c s = some f := h
        unfold spc at h'
        split at h'
        · cases h'; exact F.at4.own (fn_sound (L := Ld P w base mg (Tb K C0 C1) wf d) F.at4.fn (C8.fnScope_by (by decide +kernel)) f4 rfl rfl (t4 (cn F wf d) (Nat.le_refl _)))
        · cases h'; exact F.at7.own (fn_sound (L := Ld P w base mg (Tb K C0 C1) wf d) F.at7.fn (C8.fnScope_by (by decide +kernel)) f7 rfl rfl (t7 (cn F wf d) (Nat.le_refl _)))
        · cases h'
       first := fun c op f h => by
        have h' : spc c (.bin op) = some f := h
        unfold spc at h'
        split at h'
        · rename_i z; cases z
        · rename_i z; cases z
        · cases h' }
      ins := fun c => match c with
      | 0 => F.in0
      | 1 => F.in1
      | _ + 2 => F.in0
      nm := rfl
      b_bool := F.b_bool
      b_enumerate := F.b_enumerate
      b_int := F.b_int
      b_isinstance := F.b_isinstance
      b_len := F.b_len
      b_list := F.b_list
      b_max := F.b_max
      b_min := F.b_min
      b_range := F.b_range
      b_set := F.b_set
      b_sorted := F.b_sorted
      b_tuple := F.b_tuple
      m_Web := F.mc0
      m_Scene := F.mc1
      k_Web := F.at3.mak F.mk0 F.kc0 F.mc0 (init_new (init_sound (L := Ld P w base mg (Tb K C0 C1) wf d) F.at3.fn (C8.fnScope_by (by decide +kernel)) f3 rfl rfl (t3 (cn F wf d) (Nat.le_refl _))))
      k_Scene := F.at6.mak F.mk1 F.kc1 F.mc1 (init_new (init_sound (L := Ld P w base mg (Tb K C0 C1) wf d) F.at6.fn (C8.fnScope_by (by decide +kernel)) f6 rfl rfl (t6 (cn F wf d) (Nat.le_refl _))))
      c_places_of := F.at0.cal (fn_sound (L := Ld P w base mg (Tb K C0 C1) wf d) F.at0.fn (C8.fnScope_by (by decide +kernel)) f0 rfl rfl (t0 (cn F wf d) (Nat.le_refl _)))
      c_near_masks := F.at1.cal (fn_sound (L := Ld P w base mg (Tb K C0 C1) wf d) F.at1.fn (C8.fnScope_by (by decide +kernel)) f1 rfl rfl (t1 (cn F wf d) (Nat.le_refl _)))
      c_spread := F.at2.cal (fn_sound (L := Ld P w base mg (Tb K C0 C1) wf d) F.at2.fn (C8.fnScope_by (by decide +kernel)) f2 rfl rfl (t2 (cn F wf d) (Nat.le_refl _)))
      c_check_lines := F.at5.cal (fn_sound (L := Ld P w base mg (Tb K C0 C1) wf d) F.at5.fn (C8.fnScope_by (by decide +kernel)) f5 rfl rfl (t5 (cn F wf d) (Nat.le_refl _)))
      c_check_picture := F.at8.cal (fn_sound (L := Ld P w base mg (Tb K C0 C1) wf d) F.at8.fn (C8.fnScope_by (by decide +kernel)) f8 rfl rfl (t8 (cn F wf d) (Nat.le_refl _)))
      c_masks_of_scene := F.at9.cal (fn_sound (L := Ld P w base mg (Tb K C0 C1) wf d) F.at9.fn (C8.fnScope_by (by decide +kernel)) f9 rfl rfl (t9 (cn F wf d) (Nat.le_refl _)))
      c_scene_of_masks := F.at10.cal (fn_sound (L := Ld P w base mg (Tb K C0 C1) wf d) F.at10.fn (C8.fnScope_by (by decide +kernel)) f10 rfl rfl (t10 (cn F wf d) (Nat.le_refl _)))
      c_poked_mask := F.at11.cal (fn_sound (L := Ld P w base mg (Tb K C0 C1) wf d) F.at11.fn (C8.fnScope_by (by decide +kernel)) f11 rfl rfl (t11 (cn F wf d) (Nat.le_refl _)))
      c_next_masks := F.at12.cal (fn_sound (L := Ld P w base mg (Tb K C0 C1) wf d) F.at12.fn (C8.fnScope_by (by decide +kernel)) f12 rfl rfl (t12 (cn F wf d) (Nat.le_refl _)))
      c_step := F.at13.cal (fn_sound (L := Ld P w base mg (Tb K C0 C1) wf d) F.at13.fn (C8.fnScope_by (by decide +kernel)) f13 rfl rfl (t13 (cn F wf d) (Nat.le_refl _)))
      c__law_whole := F.at14.cal (fn_sound (L := Ld P w base mg (Tb K C0 C1) wf d) F.at14.fn (C8.fnScope_by (by decide +kernel)) f14 rfl rfl (t14 (cn F wf d) (Nat.le_refl _)))
      c__law_cell := F.at15.cal (fn_sound (L := Ld P w base mg (Tb K C0 C1) wf d) F.at15.fn (C8.fnScope_by (by decide +kernel)) f15 rfl rfl (t15 (cn F wf d) (Nat.le_refl _)))
      c__law_digits := F.at16.cal (fn_sound (L := Ld P w base mg (Tb K C0 C1) wf d) F.at16.fn (C8.fnScope_by (by decide +kernel)) f16 rfl rfl (t16 (cn F wf d) (Nat.le_refl _)))
      c__law_web := F.at17.cal (fn_sound (L := Ld P w base mg (Tb K C0 C1) wf d) F.at17.fn (C8.fnScope_by (by decide +kernel)) f17 rfl rfl (t17 (cn F wf d) (Nat.le_refl _)))
      c__law_picture := F.at18.cal (fn_sound (L := Ld P w base mg (Tb K C0 C1) wf d) F.at18.fn (C8.fnScope_by (by decide +kernel)) f18 rfl rfl (t18 (cn F wf d) (Nat.le_refl _)))
      c__law_scene := F.at19.cal (fn_sound (L := Ld P w base mg (Tb K C0 C1) wf d) F.at19.fn (C8.fnScope_by (by decide +kernel)) f19 rfl rfl (t19 (cn F wf d) (Nat.le_refl _)))
      c__law_near := F.at20.cal (fn_sound (L := Ld P w base mg (Tb K C0 C1) wf d) F.at20.fn (C8.fnScope_by (by decide +kernel)) f20 rfl rfl (t20 (cn F wf d) (Nat.le_refl _)))
      c__law_step := F.at21.cal (fn_sound (L := Ld P w base mg (Tb K C0 C1) wf d) F.at21.fn (C8.fnScope_by (by decide +kernel)) f21 rfl rfl (t21 (cn F wf d) (Nat.le_refl _)))
      c__law_row := F.at22.cal (fn_sound (L := Ld P w base mg (Tb K C0 C1) wf d) F.at22.fn (C8.fnScope_by (by decide +kernel)) f22 rfl rfl (t22 (cn F wf d) (Nat.le_refl _)))
      c__law_is_scene := F.at23.cal (fn_sound (L := Ld P w base mg (Tb K C0 C1) wf d) F.at23.fn (C8.fnScope_by (by decide +kernel)) f23 rfl rfl (t23 (cn F wf d) (Nat.le_refl _)))
      d_step_1 := .of F.at13 F.bd13_1 (fn_sound (L := Ld P w base mg (Tb K C0 C1) wf d) F.at13.fn (C8.fnScope_by (by decide +kernel)) f13 rfl rfl (t13 (cn F wf d) (Nat.le_refl _))) }
def spLaw (K : PySem.W.Frag) : Sp := fun vs H Q _ => ∃ (a : Addr) (ns : List Int), vs = [.ref a] ∧ SqL K H a (ns.map V.int) ∧ ns.length ≤ 63 ∧ ∀ H', Q (.bl true) H'
theorem law_ok (F : Facts K mg C0 C1 a0 a1 a2 a3 a4 a5 a6 a7 a8 a9 a10 a11 a12 a13 a14 a15 a16 a17 a18 a19 a20 a21 a22 a23 a24 d0 d1 d2 d3 d4 d5 d6 d7 d8 d9 d10 d11 d12 d13 d14 d15 d16 d17 d18 d19 d20 d21 d22 d23 d24) (wf d : Nat) (main : ∀ ns : List Int, ns.length ≤ 63 → runD (Gn wf d) f24 [.lst .ro (ns.map D.int)] = some (.bl true)) : FnOk P w K mg base C8.CX0 (2 * d + 2) a24 d24 ["script"] (spLaw K) :=
  (fn_sound (L := Ld P w base mg (Tb K C0 C1) wf d) F.at24.fn (C8.fnScope_by (by decide +kernel)) f24 rfl rfl (t24 (cn F wf d) (Nat.le_refl _))).imp fun vs H Q E ⟨a, ns, h1, h2, h3, h4⟩ => by
    subst h1
    exact ⟨H, [.lst .ro (ns.map D.int)], .bl true, Evl.Ex.refl _, ⟨.ref a, [], [], [], rfl, rfl, ⟨a, _, rfl, rfl, h2, ints_repS ns⟩, rfl, rfl⟩, main ns h3, fun v H' Hf' F' g r n => by rw [r.1]; exact h4 H'⟩
end
theorem all_mk {K : PySem.W.Frag} {h : Heap} {mg : Str → Option Value} {C0 C1 a0 a1 a2 a3 a4 a5 a6 a7 a8 a9 a10 a11 a12 a13 a14 a15 a16 a17 a18 a19 a20 a21 a22 a23 a24 : Addr} (X : K.In h) (G : h.Ns mainGlobals mg)
    (cx0 : PySem.W.nsIn K mainGlobals "Web" = some (some (.ref C0))) (pg0 : PySem.W.plainGet K C0 Str.empty = true) (hd0 : PySem.W.hasDictIn K C0 = true) (po0 : PySem.W.plainOver K C0 = true) (sa0 : PySem.W.findIn K (.ref C0) "__setattr__" = some (some (.builtin "object.__setattr__"))) (mk0 : PySem.W.makesIn K C0 = true) (kc0 : PySem.W.keepIn K (.ref C0) = true) (sf0 : PySem.W.selfFirst K C0 = true) (ha0 : PySem.W.findIn K (.ref C0) "__class__" = some (some (.builtin "object.__class__"))) (hm0 : PySem.W.mroIn K C0 (.type "object") = some true) (me0 : PySem.W.kitOne K (.ref C0) (.ref C0) = some true)
    (n0_0 : PySem.W.findIn K (.ref C0) "size" = some none)
    (n0_1 : PySem.W.findIn K (.ref C0) "lines" = some none)
    (n0_2 : PySem.W.findIn K (.ref C0) "masks" = some none)
    (n0_3 : PySem.W.findIn K (.ref C0) "_near" = some none)
    (n0_4 : PySem.W.findIn K (.ref C0) "web" = some none)
    (n0_5 : PySem.W.findIn K (.ref C0) "picture" = some none)
    (cx1 : PySem.W.nsIn K mainGlobals "Scene" = some (some (.ref C1))) (pg1 : PySem.W.plainGet K C1 Str.empty = true) (hd1 : PySem.W.hasDictIn K C1 = true) (po1 : PySem.W.plainOver K C1 = true) (sa1 : PySem.W.findIn K (.ref C1) "__setattr__" = some (some (.builtin "object.__setattr__"))) (mk1 : PySem.W.makesIn K C1 = true) (kc1 : PySem.W.keepIn K (.ref C1) = true) (sf1 : PySem.W.selfFirst K C1 = true) (ha1 : PySem.W.findIn K (.ref C1) "__class__" = some (some (.builtin "object.__class__"))) (hm1 : PySem.W.mroIn K C1 (.type "object") = some true) (me1 : PySem.W.kitOne K (.ref C1) (.ref C1) = some true)
    (n1_0 : PySem.W.findIn K (.ref C1) "size" = some none)
    (n1_1 : PySem.W.findIn K (.ref C1) "lines" = some none)
    (n1_2 : PySem.W.findIn K (.ref C1) "masks" = some none)
    (n1_3 : PySem.W.findIn K (.ref C1) "_near" = some none)
    (n1_4 : PySem.W.findIn K (.ref C1) "web" = some none)
    (n1_5 : PySem.W.findIn K (.ref C1) "picture" = some none)
    {o0 : Option Addr} {an0 : Option Addr} {sl0 : Array (Option Value)} {oc0 kV0 dc0 pm0 cd0 ct0 : Value}
    (x0 : PySem.W.nsIn K mainGlobals "places_of" = some (some (.ref a0)))
    (l0 : K.lookup a0 = some ⟨oc0, o0, .func (PySem.W.fnOf "places_of" "places_of" (C8.fnArgs s0) (C8.fnBody s0) (C8.fnScope s0) .none kV0 dc0 pm0 an0 cd0 ct0), sl0⟩) (e0 : PySem.W.codeIn K cd0 "places_of" = true) (u0 : PySem.W.keepIn K (.ref a0) = true)
    {o1 : Option Addr} {an1 : Option Addr} {sl1 : Array (Option Value)} {oc1 kV1 dc1 pm1 cd1 ct1 : Value}
    (x1 : PySem.W.nsIn K mainGlobals "near_masks" = some (some (.ref a1)))
    (l1 : K.lookup a1 = some ⟨oc1, o1, .func (PySem.W.fnOf "near_masks" "near_masks" (C8.fnArgs s1) (C8.fnBody s1) (C8.fnScope s1) .none kV1 dc1 pm1 an1 cd1 ct1), sl1⟩) (e1 : PySem.W.codeIn K cd1 "near_masks" = true) (u1 : PySem.W.keepIn K (.ref a1) = true)
    {o2 : Option Addr} {an2 : Option Addr} {sl2 : Array (Option Value)} {oc2 kV2 dc2 pm2 cd2 ct2 : Value}
    (x2 : PySem.W.nsIn K mainGlobals "spread" = some (some (.ref a2)))
    (l2 : K.lookup a2 = some ⟨oc2, o2, .func (PySem.W.fnOf "spread" "spread" (C8.fnArgs s2) (C8.fnBody s2) (C8.fnScope s2) .none kV2 dc2 pm2 an2 cd2 ct2), sl2⟩) (e2 : PySem.W.codeIn K cd2 "spread" = true) (u2 : PySem.W.keepIn K (.ref a2) = true)
    {T3 : Addr}
    {o3 : Option Addr} {an3 : Option Addr} {sl3 : Array (Option Value)} {oc3 kV3 dc3 pm3 cd3 ct3 : Value}
    (x3 : PySem.W.findIn K (.ref C0) "__init__" = some (some (.ref a3))) (i3 : PySem.W.isFn K (.ref a3) = true)
    (l3 : K.lookup a3 = some ⟨oc3, o3, .func (PySem.W.fnOf "__init__" "Web.__init__" (C8.fnArgs s3) (C8.fnBody s3) (C8.fnScope s3) (.ref T3) kV3 dc3 pm3 an3 cd3 ct3), sl3⟩) (e3 : PySem.W.codeIn K cd3 "Web.__init__" = true) (u3 : PySem.W.keepIn K (.ref a3) = true)
    {U3_0 : Addr} {uo3_0 : Option Addr} {un3_0 : Nat} {us3_0 : Array (Option Value)} (w3_0 : K.lookup U3_0 = some ⟨.type "tuple", uo3_0, .seq #[] un3_0, us3_0⟩)
    {tc3 : Value} {to3 : Option Addr} {tn3 : Nat} {ts3 : Array (Option Value)} (v3 : K.lookup T3 = some ⟨tc3, to3, .seq #[.ref U3_0] tn3, ts3⟩)
    {o4 : Option Addr} {an4 : Option Addr} {sl4 : Array (Option Value)} {oc4 kV4 dc4 pm4 cd4 ct4 : Value}
    (x4 : PySem.W.findIn K (.ref C0) "__eq__" = some (some (.ref a4))) (i4 : PySem.W.isFn K (.ref a4) = true)
    (l4 : K.lookup a4 = some ⟨oc4, o4, .func (PySem.W.fnOf "__eq__" "Web.__eq__" (C8.fnArgs s4) (C8.fnBody s4) (C8.fnScope s4) .none kV4 dc4 pm4 an4 cd4 ct4), sl4⟩) (e4 : PySem.W.codeIn K cd4 "Web.__eq__" = true) (u4 : PySem.W.keepIn K (.ref a4) = true)
    {o5 : Option Addr} {an5 : Option Addr} {sl5 : Array (Option Value)} {oc5 kV5 dc5 pm5 cd5 ct5 : Value}
    (x5 : PySem.W.nsIn K mainGlobals "check_lines" = some (some (.ref a5)))
    (l5 : K.lookup a5 = some ⟨oc5, o5, .func (PySem.W.fnOf "check_lines" "check_lines" (C8.fnArgs s5) (C8.fnBody s5) (C8.fnScope s5) .none kV5 dc5 pm5 an5 cd5 ct5), sl5⟩) (e5 : PySem.W.codeIn K cd5 "check_lines" = true) (u5 : PySem.W.keepIn K (.ref a5) = true)
    {o6 : Option Addr} {an6 : Option Addr} {sl6 : Array (Option Value)} {oc6 kV6 dc6 pm6 cd6 ct6 : Value}
    (x6 : PySem.W.findIn K (.ref C1) "__init__" = some (some (.ref a6))) (i6 : PySem.W.isFn K (.ref a6) = true)
    (l6 : K.lookup a6 = some ⟨oc6, o6, .func (PySem.W.fnOf "__init__" "Scene.__init__" (C8.fnArgs s6) (C8.fnBody s6) (C8.fnScope s6) .none kV6 dc6 pm6 an6 cd6 ct6), sl6⟩) (e6 : PySem.W.codeIn K cd6 "Scene.__init__" = true) (u6 : PySem.W.keepIn K (.ref a6) = true)
    {o7 : Option Addr} {an7 : Option Addr} {sl7 : Array (Option Value)} {oc7 kV7 dc7 pm7 cd7 ct7 : Value}
    (x7 : PySem.W.findIn K (.ref C1) "__eq__" = some (some (.ref a7))) (i7 : PySem.W.isFn K (.ref a7) = true)
    (l7 : K.lookup a7 = some ⟨oc7, o7, .func (PySem.W.fnOf "__eq__" "Scene.__eq__" (C8.fnArgs s7) (C8.fnBody s7) (C8.fnScope s7) .none kV7 dc7 pm7 an7 cd7 ct7), sl7⟩) (e7 : PySem.W.codeIn K cd7 "Scene.__eq__" = true) (u7 : PySem.W.keepIn K (.ref a7) = true)
    {o8 : Option Addr} {an8 : Option Addr} {sl8 : Array (Option Value)} {oc8 kV8 dc8 pm8 cd8 ct8 : Value}
    (x8 : PySem.W.nsIn K mainGlobals "check_picture" = some (some (.ref a8)))
    (l8 : K.lookup a8 = some ⟨oc8, o8, .func (PySem.W.fnOf "check_picture" "check_picture" (C8.fnArgs s8) (C8.fnBody s8) (C8.fnScope s8) .none kV8 dc8 pm8 an8 cd8 ct8), sl8⟩) (e8 : PySem.W.codeIn K cd8 "check_picture" = true) (u8 : PySem.W.keepIn K (.ref a8) = true)
    {o9 : Option Addr} {an9 : Option Addr} {sl9 : Array (Option Value)} {oc9 kV9 dc9 pm9 cd9 ct9 : Value}
    (x9 : PySem.W.nsIn K mainGlobals "masks_of_scene" = some (some (.ref a9)))
    (l9 : K.lookup a9 = some ⟨oc9, o9, .func (PySem.W.fnOf "masks_of_scene" "masks_of_scene" (C8.fnArgs s9) (C8.fnBody s9) (C8.fnScope s9) .none kV9 dc9 pm9 an9 cd9 ct9), sl9⟩) (e9 : PySem.W.codeIn K cd9 "masks_of_scene" = true) (u9 : PySem.W.keepIn K (.ref a9) = true)
    {o10 : Option Addr} {an10 : Option Addr} {sl10 : Array (Option Value)} {oc10 kV10 dc10 pm10 cd10 ct10 : Value}
    (x10 : PySem.W.nsIn K mainGlobals "scene_of_masks" = some (some (.ref a10)))
    (l10 : K.lookup a10 = some ⟨oc10, o10, .func (PySem.W.fnOf "scene_of_masks" "scene_of_masks" (C8.fnArgs s10) (C8.fnBody s10) (C8.fnScope s10) .none kV10 dc10 pm10 an10 cd10 ct10), sl10⟩) (e10 : PySem.W.codeIn K cd10 "scene_of_masks" = true) (u10 : PySem.W.keepIn K (.ref a10) = true)
    {o11 : Option Addr} {an11 : Option Addr} {sl11 : Array (Option Value)} {oc11 kV11 dc11 pm11 cd11 ct11 : Value}
    (x11 : PySem.W.nsIn K mainGlobals "poked_mask" = some (some (.ref a11)))
    (l11 : K.lookup a11 = some ⟨oc11, o11, .func (PySem.W.fnOf "poked_mask" "poked_mask" (C8.fnArgs s11) (C8.fnBody s11) (C8.fnScope s11) .none kV11 dc11 pm11 an11 cd11 ct11), sl11⟩) (e11 : PySem.W.codeIn K cd11 "poked_mask" = true) (u11 : PySem.W.keepIn K (.ref a11) = true)
    {o12 : Option Addr} {an12 : Option Addr} {sl12 : Array (Option Value)} {oc12 kV12 dc12 pm12 cd12 ct12 : Value}
    (x12 : PySem.W.nsIn K mainGlobals "next_masks" = some (some (.ref a12)))
    (l12 : K.lookup a12 = some ⟨oc12, o12, .func (PySem.W.fnOf "next_masks" "next_masks" (C8.fnArgs s12) (C8.fnBody s12) (C8.fnScope s12) .none kV12 dc12 pm12 an12 cd12 ct12), sl12⟩) (e12 : PySem.W.codeIn K cd12 "next_masks" = true) (u12 : PySem.W.keepIn K (.ref a12) = true)
    {T13 : Addr}
    {o13 : Option Addr} {an13 : Option Addr} {sl13 : Array (Option Value)} {oc13 kV13 dc13 pm13 cd13 ct13 : Value}
    (x13 : PySem.W.nsIn K mainGlobals "step" = some (some (.ref a13)))
    (l13 : K.lookup a13 = some ⟨oc13, o13, .func (PySem.W.fnOf "step" "step" (C8.fnArgs s13) (C8.fnBody s13) (C8.fnScope s13) (.ref T13) kV13 dc13 pm13 an13 cd13 ct13), sl13⟩) (e13 : PySem.W.codeIn K cd13 "step" = true) (u13 : PySem.W.keepIn K (.ref a13) = true)
    {U13_0 : Addr} {uo13_0 : Option Addr} {un13_0 : Nat} {us13_0 : Array (Option Value)} (w13_0 : K.lookup U13_0 = some ⟨.type "tuple", uo13_0, .seq #[] un13_0, us13_0⟩)
    {tc13 : Value} {to13 : Option Addr} {tn13 : Nat} {ts13 : Array (Option Value)} (v13 : K.lookup T13 = some ⟨tc13, to13, .seq #[.ref U13_0] tn13, ts13⟩)
    {o14 : Option Addr} {an14 : Option Addr} {sl14 : Array (Option Value)} {oc14 kV14 dc14 pm14 cd14 ct14 : Value}
    (x14 : PySem.W.nsIn K mainGlobals "_law_whole" = some (some (.ref a14)))
    (l14 : K.lookup a14 = some ⟨oc14, o14, .func (PySem.W.fnOf "_law_whole" "_law_whole" (C8.fnArgs s14) (C8.fnBody s14) (C8.fnScope s14) .none kV14 dc14 pm14 an14 cd14 ct14), sl14⟩) (e14 : PySem.W.codeIn K cd14 "_law_whole" = true) (u14 : PySem.W.keepIn K (.ref a14) = true)
    {o15 : Option Addr} {an15 : Option Addr} {sl15 : Array (Option Value)} {oc15 kV15 dc15 pm15 cd15 ct15 : Value}
    (x15 : PySem.W.nsIn K mainGlobals "_law_cell" = some (some (.ref a15)))
    (l15 : K.lookup a15 = some ⟨oc15, o15, .func (PySem.W.fnOf "_law_cell" "_law_cell" (C8.fnArgs s15) (C8.fnBody s15) (C8.fnScope s15) .none kV15 dc15 pm15 an15 cd15 ct15), sl15⟩) (e15 : PySem.W.codeIn K cd15 "_law_cell" = true) (u15 : PySem.W.keepIn K (.ref a15) = true)
    {o16 : Option Addr} {an16 : Option Addr} {sl16 : Array (Option Value)} {oc16 kV16 dc16 pm16 cd16 ct16 : Value}
    (x16 : PySem.W.nsIn K mainGlobals "_law_digits" = some (some (.ref a16)))
    (l16 : K.lookup a16 = some ⟨oc16, o16, .func (PySem.W.fnOf "_law_digits" "_law_digits" (C8.fnArgs s16) (C8.fnBody s16) (C8.fnScope s16) .none kV16 dc16 pm16 an16 cd16 ct16), sl16⟩) (e16 : PySem.W.codeIn K cd16 "_law_digits" = true) (u16 : PySem.W.keepIn K (.ref a16) = true)
    {o17 : Option Addr} {an17 : Option Addr} {sl17 : Array (Option Value)} {oc17 kV17 dc17 pm17 cd17 ct17 : Value}
    (x17 : PySem.W.nsIn K mainGlobals "_law_web" = some (some (.ref a17)))
    (l17 : K.lookup a17 = some ⟨oc17, o17, .func (PySem.W.fnOf "_law_web" "_law_web" (C8.fnArgs s17) (C8.fnBody s17) (C8.fnScope s17) .none kV17 dc17 pm17 an17 cd17 ct17), sl17⟩) (e17 : PySem.W.codeIn K cd17 "_law_web" = true) (u17 : PySem.W.keepIn K (.ref a17) = true)
    {o18 : Option Addr} {an18 : Option Addr} {sl18 : Array (Option Value)} {oc18 kV18 dc18 pm18 cd18 ct18 : Value}
    (x18 : PySem.W.nsIn K mainGlobals "_law_picture" = some (some (.ref a18)))
    (l18 : K.lookup a18 = some ⟨oc18, o18, .func (PySem.W.fnOf "_law_picture" "_law_picture" (C8.fnArgs s18) (C8.fnBody s18) (C8.fnScope s18) .none kV18 dc18 pm18 an18 cd18 ct18), sl18⟩) (e18 : PySem.W.codeIn K cd18 "_law_picture" = true) (u18 : PySem.W.keepIn K (.ref a18) = true)
    {o19 : Option Addr} {an19 : Option Addr} {sl19 : Array (Option Value)} {oc19 kV19 dc19 pm19 cd19 ct19 : Value}
    (x19 : PySem.W.nsIn K mainGlobals "_law_scene" = some (some (.ref a19)))
    (l19 : K.lookup a19 = some ⟨oc19, o19, .func (PySem.W.fnOf "_law_scene" "_law_scene" (C8.fnArgs s19) (C8.fnBody s19) (C8.fnScope s19) .none kV19 dc19 pm19 an19 cd19 ct19), sl19⟩) (e19 : PySem.W.codeIn K cd19 "_law_scene" = true) (u19 : PySem.W.keepIn K (.ref a19) = true)
    {o20 : Option Addr} {an20 : Option Addr} {sl20 : Array (Option Value)} {oc20 kV20 dc20 pm20 cd20 ct20 : Value}
    (x20 : PySem.W.nsIn K mainGlobals "_law_near" = some (some (.ref a20)))
    (l20 : K.lookup a20 = some ⟨oc20, o20, .func (PySem.W.fnOf "_law_near" "_law_near" (C8.fnArgs s20) (C8.fnBody s20) (C8.fnScope s20) .none kV20 dc20 pm20 an20 cd20 ct20), sl20⟩) (e20 : PySem.W.codeIn K cd20 "_law_near" = true) (u20 : PySem.W.keepIn K (.ref a20) = true)
    {o21 : Option Addr} {an21 : Option Addr} {sl21 : Array (Option Value)} {oc21 kV21 dc21 pm21 cd21 ct21 : Value}
    (x21 : PySem.W.nsIn K mainGlobals "_law_step" = some (some (.ref a21)))
    (l21 : K.lookup a21 = some ⟨oc21, o21, .func (PySem.W.fnOf "_law_step" "_law_step" (C8.fnArgs s21) (C8.fnBody s21) (C8.fnScope s21) .none kV21 dc21 pm21 an21 cd21 ct21), sl21⟩) (e21 : PySem.W.codeIn K cd21 "_law_step" = true) (u21 : PySem.W.keepIn K (.ref a21) = true)
    {o22 : Option Addr} {an22 : Option Addr} {sl22 : Array (Option Value)} {oc22 kV22 dc22 pm22 cd22 ct22 : Value}
    (x22 : PySem.W.nsIn K mainGlobals "_law_row" = some (some (.ref a22)))
    (l22 : K.lookup a22 = some ⟨oc22, o22, .func (PySem.W.fnOf "_law_row" "_law_row" (C8.fnArgs s22) (C8.fnBody s22) (C8.fnScope s22) .none kV22 dc22 pm22 an22 cd22 ct22), sl22⟩) (e22 : PySem.W.codeIn K cd22 "_law_row" = true) (u22 : PySem.W.keepIn K (.ref a22) = true)
    {o23 : Option Addr} {an23 : Option Addr} {sl23 : Array (Option Value)} {oc23 kV23 dc23 pm23 cd23 ct23 : Value}
    (x23 : PySem.W.nsIn K mainGlobals "_law_is_scene" = some (some (.ref a23)))
    (l23 : K.lookup a23 = some ⟨oc23, o23, .func (PySem.W.fnOf "_law_is_scene" "_law_is_scene" (C8.fnArgs s23) (C8.fnBody s23) (C8.fnScope s23) .none kV23 dc23 pm23 an23 cd23 ct23), sl23⟩) (e23 : PySem.W.codeIn K cd23 "_law_is_scene" = true) (u23 : PySem.W.keepIn K (.ref a23) = true)
    {o24 : Option Addr} {an24 : Option Addr} {sl24 : Array (Option Value)} {oc24 kV24 dc24 pm24 cd24 ct24 : Value}
    (x24 : PySem.W.nsIn K mainGlobals "law" = some (some (.ref a24)))
    (l24 : K.lookup a24 = some ⟨oc24, o24, .func (PySem.W.fnOf "law" "law" (C8.fnArgs s24) (C8.fnBody s24) (C8.fnScope s24) .none kV24 dc24 pm24 an24 cd24 ct24), sl24⟩) (e24 : PySem.W.codeIn K cd24 "law" = true) (u24 : PySem.W.keepIn K (.ref a24) = true)
    (ghn : PySem.W.specialIn K (.builtin "object.__class__") "__get__" = some (some (.builtin "getset_descriptor.__get__"))) (gtk : PySem.W.takesIn K (.builtin "object.__class__") = some true)
    (z_bool : PySem.W.nsIn K mainGlobals "bool" = some none)
    (z_enumerate : PySem.W.nsIn K mainGlobals "enumerate" = some none)
    (z_int : PySem.W.nsIn K mainGlobals "int" = some none)
    (z_isinstance : PySem.W.nsIn K mainGlobals "isinstance" = some none)
    (z_len : PySem.W.nsIn K mainGlobals "len" = some none)
    (z_list : PySem.W.nsIn K mainGlobals "list" = some none)
    (z_max : PySem.W.nsIn K mainGlobals "max" = some none)
    (z_min : PySem.W.nsIn K mainGlobals "min" = some none)
    (z_range : PySem.W.nsIn K mainGlobals "range" = some none)
    (z_set : PySem.W.nsIn K mainGlobals "set" = some none)
    (z_sorted : PySem.W.nsIn K mainGlobals "sorted" = some none)
    (z_tuple : PySem.W.nsIn K mainGlobals "tuple" = some none) :
    Facts K mg C0 C1 a0 a1 a2 a3 a4 a5 a6 a7 a8 a9 a10 a11 a12 a13 a14 a15 a16 a17 a18 a19 a20 a21 a22 a23 a24 (PySem.W.fnOf "places_of" "places_of" (C8.fnArgs s0) (C8.fnBody s0) (C8.fnScope s0) .none kV0 dc0 pm0 an0 cd0 ct0) (PySem.W.fnOf "near_masks" "near_masks" (C8.fnArgs s1) (C8.fnBody s1) (C8.fnScope s1) .none kV1 dc1 pm1 an1 cd1 ct1) (PySem.W.fnOf "spread" "spread" (C8.fnArgs s2) (C8.fnBody s2) (C8.fnScope s2) .none kV2 dc2 pm2 an2 cd2 ct2) (PySem.W.fnOf "__init__" "Web.__init__" (C8.fnArgs s3) (C8.fnBody s3) (C8.fnScope s3) (.ref T3) kV3 dc3 pm3 an3 cd3 ct3) (PySem.W.fnOf "__eq__" "Web.__eq__" (C8.fnArgs s4) (C8.fnBody s4) (C8.fnScope s4) .none kV4 dc4 pm4 an4 cd4 ct4) (PySem.W.fnOf "check_lines" "check_lines" (C8.fnArgs s5) (C8.fnBody s5) (C8.fnScope s5) .none kV5 dc5 pm5 an5 cd5 ct5) (PySem.W.fnOf "__init__" "Scene.__init__" (C8.fnArgs s6) (C8.fnBody s6) (C8.fnScope s6) .none kV6 dc6 pm6 an6 cd6 ct6) (PySem.W.fnOf "__eq__" "Scene.__eq__" (C8.fnArgs s7) (C8.fnBody s7) (C8.fnScope s7) .none kV7 dc7 pm7 an7 cd7 ct7) (PySem.W.fnOf "check_picture" "check_picture" (C8.fnArgs s8) (C8.fnBody s8) (C8.fnScope s8) .none kV8 dc8 pm8 an8 cd8 ct8) (PySem.W.fnOf "masks_of_scene" "masks_of_scene" (C8.fnArgs s9) (C8.fnBody s9) (C8.fnScope s9) .none kV9 dc9 pm9 an9 cd9 ct9) (PySem.W.fnOf "scene_of_masks" "scene_of_masks" (C8.fnArgs s10) (C8.fnBody s10) (C8.fnScope s10) .none kV10 dc10 pm10 an10 cd10 ct10) (PySem.W.fnOf "poked_mask" "poked_mask" (C8.fnArgs s11) (C8.fnBody s11) (C8.fnScope s11) .none kV11 dc11 pm11 an11 cd11 ct11) (PySem.W.fnOf "next_masks" "next_masks" (C8.fnArgs s12) (C8.fnBody s12) (C8.fnScope s12) .none kV12 dc12 pm12 an12 cd12 ct12) (PySem.W.fnOf "step" "step" (C8.fnArgs s13) (C8.fnBody s13) (C8.fnScope s13) (.ref T13) kV13 dc13 pm13 an13 cd13 ct13) (PySem.W.fnOf "_law_whole" "_law_whole" (C8.fnArgs s14) (C8.fnBody s14) (C8.fnScope s14) .none kV14 dc14 pm14 an14 cd14 ct14) (PySem.W.fnOf "_law_cell" "_law_cell" (C8.fnArgs s15) (C8.fnBody s15) (C8.fnScope s15) .none kV15 dc15 pm15 an15 cd15 ct15) (PySem.W.fnOf "_law_digits" "_law_digits" (C8.fnArgs s16) (C8.fnBody s16) (C8.fnScope s16) .none kV16 dc16 pm16 an16 cd16 ct16) (PySem.W.fnOf "_law_web" "_law_web" (C8.fnArgs s17) (C8.fnBody s17) (C8.fnScope s17) .none kV17 dc17 pm17 an17 cd17 ct17) (PySem.W.fnOf "_law_picture" "_law_picture" (C8.fnArgs s18) (C8.fnBody s18) (C8.fnScope s18) .none kV18 dc18 pm18 an18 cd18 ct18) (PySem.W.fnOf "_law_scene" "_law_scene" (C8.fnArgs s19) (C8.fnBody s19) (C8.fnScope s19) .none kV19 dc19 pm19 an19 cd19 ct19) (PySem.W.fnOf "_law_near" "_law_near" (C8.fnArgs s20) (C8.fnBody s20) (C8.fnScope s20) .none kV20 dc20 pm20 an20 cd20 ct20) (PySem.W.fnOf "_law_step" "_law_step" (C8.fnArgs s21) (C8.fnBody s21) (C8.fnScope s21) .none kV21 dc21 pm21 an21 cd21 ct21) (PySem.W.fnOf "_law_row" "_law_row" (C8.fnArgs s22) (C8.fnBody s22) (C8.fnScope s22) .none kV22 dc22 pm22 an22 cd22 ct22) (PySem.W.fnOf "_law_is_scene" "_law_is_scene" (C8.fnArgs s23) (C8.fnBody s23) (C8.fnScope s23) .none kV23 dc23 pm23 an23 cd23 ct23) (PySem.W.fnOf "law" "law" (C8.fnArgs s24) (C8.fnBody s24) (C8.fnScope s24) .none kV24 dc24 pm24 an24 cd24 ct24) := {
      at0 := ⟨⟨_, _, _, _, _, _, _, _, _, _, rfl, l0, e0⟩, PySem.W.mg_of X G x0, u0, C8.Fun.binds (x := "places_of") (qual := "places_of") (st := s0) (f := a0) ⟨_, _, _, _, _, _, _, _, _, _, rfl, l0, e0⟩ rfl fun _ _ _ _ _ _ us hl => match us, hl with | [_], _ => rfl⟩
      at1 := ⟨⟨_, _, _, _, _, _, _, _, _, _, rfl, l1, e1⟩, PySem.W.mg_of X G x1, u1, C8.Fun.binds (x := "near_masks") (qual := "near_masks") (st := s1) (f := a1) ⟨_, _, _, _, _, _, _, _, _, _, rfl, l1, e1⟩ rfl fun _ _ _ _ _ _ us hl => match us, hl with | [_, _], _ => rfl⟩
      at2 := ⟨⟨_, _, _, _, _, _, _, _, _, _, rfl, l2, e2⟩, PySem.W.mg_of X G x2, u2, C8.Fun.binds (x := "spread") (qual := "spread") (st := s2) (f := a2) ⟨_, _, _, _, _, _, _, _, _, _, rfl, l2, e2⟩ rfl fun _ _ _ _ _ _ us hl => match us, hl with | [_, _], _ => rfl⟩
      at3 := ⟨⟨_, _, _, _, _, _, _, _, _, _, rfl, l3, e3⟩, x3, i3, u3, binds_d (x := "__init__") (qual := "Web.__init__") (st := s3) (ps := q3) (its := [.ref U3_0]) v3 rfl [] fun us hl => match us, (show us.length = 3 from by have h' := hl; rw [List.length_append] at h'; have e : (q3).length = 3 := rfl; have e2 : ([] : List Value).length = 0 := rfl; omega) with | [_, _, _], _ => ⟨_, rfl, rfl⟩⟩
      at4 := ⟨⟨_, _, _, _, _, _, _, _, _, _, rfl, l4, e4⟩, x4, i4, u4, C8.Fun.binds (x := "__eq__") (qual := "Web.__eq__") (st := s4) (f := a4) ⟨_, _, _, _, _, _, _, _, _, _, rfl, l4, e4⟩ rfl fun _ _ _ _ _ _ us hl => match us, hl with | [_, _], _ => rfl⟩
      at5 := ⟨⟨_, _, _, _, _, _, _, _, _, _, rfl, l5, e5⟩, PySem.W.mg_of X G x5, u5, C8.Fun.binds (x := "check_lines") (qual := "check_lines") (st := s5) (f := a5) ⟨_, _, _, _, _, _, _, _, _, _, rfl, l5, e5⟩ rfl fun _ _ _ _ _ _ us hl => match us, hl with | [_, _], _ => rfl⟩
      at6 := ⟨⟨_, _, _, _, _, _, _, _, _, _, rfl, l6, e6⟩, x6, i6, u6, C8.Fun.binds (x := "__init__") (qual := "Scene.__init__") (st := s6) (f := a6) ⟨_, _, _, _, _, _, _, _, _, _, rfl, l6, e6⟩ rfl fun _ _ _ _ _ _ us hl => match us, hl with | [_, _, _], _ => rfl⟩
      at7 := ⟨⟨_, _, _, _, _, _, _, _, _, _, rfl, l7, e7⟩, x7, i7, u7, C8.Fun.binds (x := "__eq__") (qual := "Scene.__eq__") (st := s7) (f := a7) ⟨_, _, _, _, _, _, _, _, _, _, rfl, l7, e7⟩ rfl fun _ _ _ _ _ _ us hl => match us, hl with | [_, _], _ => rfl⟩
      at8 := ⟨⟨_, _, _, _, _, _, _, _, _, _, rfl, l8, e8⟩, PySem.W.mg_of X G x8, u8, C8.Fun.binds (x := "check_picture") (qual := "check_picture") (st := s8) (f := a8) ⟨_, _, _, _, _, _, _, _, _, _, rfl, l8, e8⟩ rfl fun _ _ _ _ _ _ us hl => match us, hl with | [_, _], _ => rfl⟩
      at9 := ⟨⟨_, _, _, _, _, _, _, _, _, _, rfl, l9, e9⟩, PySem.W.mg_of X G x9, u9, C8.Fun.binds (x := "masks_of_scene") (qual := "masks_of_scene") (st := s9) (f := a9) ⟨_, _, _, _, _, _, _, _, _, _, rfl, l9, e9⟩ rfl fun _ _ _ _ _ _ us hl => match us, hl with | [_], _ => rfl⟩
      at10 := ⟨⟨_, _, _, _, _, _, _, _, _, _, rfl, l10, e10⟩, PySem.W.mg_of X G x10, u10, C8.Fun.binds (x := "scene_of_masks") (qual := "scene_of_masks") (st := s10) (f := a10) ⟨_, _, _, _, _, _, _, _, _, _, rfl, l10, e10⟩ rfl fun _ _ _ _ _ _ us hl => match us, hl with | [_, _], _ => rfl⟩
      at11 := ⟨⟨_, _, _, _, _, _, _, _, _, _, rfl, l11, e11⟩, PySem.W.mg_of X G x11, u11, C8.Fun.binds (x := "poked_mask") (qual := "poked_mask") (st := s11) (f := a11) ⟨_, _, _, _, _, _, _, _, _, _, rfl, l11, e11⟩ rfl fun _ _ _ _ _ _ us hl => match us, hl with | [_, _], _ => rfl⟩
      at12 := ⟨⟨_, _, _, _, _, _, _, _, _, _, rfl, l12, e12⟩, PySem.W.mg_of X G x12, u12, C8.Fun.binds (x := "next_masks") (qual := "next_masks") (st := s12) (f := a12) ⟨_, _, _, _, _, _, _, _, _, _, rfl, l12, e12⟩ rfl fun _ _ _ _ _ _ us hl => match us, hl with | [_, _, _], _ => rfl⟩
      at13 := ⟨⟨_, _, _, _, _, _, _, _, _, _, rfl, l13, e13⟩, PySem.W.mg_of X G x13, u13, binds_d (x := "step") (qual := "step") (st := s13) (ps := q13) (its := [.ref U13_0]) v13 rfl [] fun us hl => match us, (show us.length = 2 from by have h' := hl; rw [List.length_append] at h'; have e : (q13).length = 2 := rfl; have e2 : ([] : List Value).length = 0 := rfl; omega) with | [_, _], _ => ⟨_, rfl, rfl⟩⟩
      bd13_1 := ⟨_, binds_d (x := "step") (qual := "step") (st := s13) (ps := q13) (its := [.ref U13_0]) v13 rfl [.ref U13_0] fun us hl => match us, (show us.length = 1 from by have h' := hl; rw [List.length_append] at h'; have e : (q13).length = 2 := rfl; have e2 : ([.ref U13_0] : List Value).length = 1 := rfl; omega) with | [_], _ => ⟨_, rfl, rfl⟩, dfl_cons (dfl_unit w13_0 rfl rfl) (dfl_nil)⟩
      at14 := ⟨⟨_, _, _, _, _, _, _, _, _, _, rfl, l14, e14⟩, PySem.W.mg_of X G x14, u14, C8.Fun.binds (x := "_law_whole") (qual := "_law_whole") (st := s14) (f := a14) ⟨_, _, _, _, _, _, _, _, _, _, rfl, l14, e14⟩ rfl fun _ _ _ _ _ _ us hl => match us, hl with | [_], _ => rfl⟩
      at15 := ⟨⟨_, _, _, _, _, _, _, _, _, _, rfl, l15, e15⟩, PySem.W.mg_of X G x15, u15, C8.Fun.binds (x := "_law_cell") (qual := "_law_cell") (st := s15) (f := a15) ⟨_, _, _, _, _, _, _, _, _, _, rfl, l15, e15⟩ rfl fun _ _ _ _ _ _ us hl => match us, hl with | [_, _], _ => rfl⟩
      at16 := ⟨⟨_, _, _, _, _, _, _, _, _, _, rfl, l16, e16⟩, PySem.W.mg_of X G x16, u16, C8.Fun.binds (x := "_law_digits") (qual := "_law_digits") (st := s16) (f := a16) ⟨_, _, _, _, _, _, _, _, _, _, rfl, l16, e16⟩ rfl fun _ _ _ _ _ _ us hl => match us, hl with | [_, _], _ => rfl⟩
      at17 := ⟨⟨_, _, _, _, _, _, _, _, _, _, rfl, l17, e17⟩, PySem.W.mg_of X G x17, u17, C8.Fun.binds (x := "_law_web") (qual := "_law_web") (st := s17) (f := a17) ⟨_, _, _, _, _, _, _, _, _, _, rfl, l17, e17⟩ rfl fun _ _ _ _ _ _ us hl => match us, hl with | [_, _], _ => rfl⟩
      at18 := ⟨⟨_, _, _, _, _, _, _, _, _, _, rfl, l18, e18⟩, PySem.W.mg_of X G x18, u18, C8.Fun.binds (x := "_law_picture") (qual := "_law_picture") (st := s18) (f := a18) ⟨_, _, _, _, _, _, _, _, _, _, rfl, l18, e18⟩ rfl fun _ _ _ _ _ _ us hl => match us, hl with | [_, _], _ => rfl⟩
      at19 := ⟨⟨_, _, _, _, _, _, _, _, _, _, rfl, l19, e19⟩, PySem.W.mg_of X G x19, u19, C8.Fun.binds (x := "_law_scene") (qual := "_law_scene") (st := s19) (f := a19) ⟨_, _, _, _, _, _, _, _, _, _, rfl, l19, e19⟩ rfl fun _ _ _ _ _ _ us hl => match us, hl with | [_, _, _], _ => rfl⟩
      at20 := ⟨⟨_, _, _, _, _, _, _, _, _, _, rfl, l20, e20⟩, PySem.W.mg_of X G x20, u20, C8.Fun.binds (x := "_law_near") (qual := "_law_near") (st := s20) (f := a20) ⟨_, _, _, _, _, _, _, _, _, _, rfl, l20, e20⟩ rfl fun _ _ _ _ _ _ us hl => match us, hl with | [_, _], _ => rfl⟩
      at21 := ⟨⟨_, _, _, _, _, _, _, _, _, _, rfl, l21, e21⟩, PySem.W.mg_of X G x21, u21, C8.Fun.binds (x := "_law_step") (qual := "_law_step") (st := s21) (f := a21) ⟨_, _, _, _, _, _, _, _, _, _, rfl, l21, e21⟩ rfl fun _ _ _ _ _ _ us hl => match us, hl with | [_, _, _], _ => rfl⟩
      at22 := ⟨⟨_, _, _, _, _, _, _, _, _, _, rfl, l22, e22⟩, PySem.W.mg_of X G x22, u22, C8.Fun.binds (x := "_law_row") (qual := "_law_row") (st := s22) (f := a22) ⟨_, _, _, _, _, _, _, _, _, _, rfl, l22, e22⟩ rfl fun _ _ _ _ _ _ us hl => match us, hl with | [_, _], _ => rfl⟩
      at23 := ⟨⟨_, _, _, _, _, _, _, _, _, _, rfl, l23, e23⟩, PySem.W.mg_of X G x23, u23, C8.Fun.binds (x := "_law_is_scene") (qual := "_law_is_scene") (st := s23) (f := a23) ⟨_, _, _, _, _, _, _, _, _, _, rfl, l23, e23⟩ rfl fun _ _ _ _ _ _ us hl => match us, hl with | [_, _, _], _ => rfl⟩
      at24 := ⟨⟨_, _, _, _, _, _, _, _, _, _, rfl, l24, e24⟩, PySem.W.mg_of X G x24, u24, C8.Fun.binds (x := "law") (qual := "law") (st := s24) (f := a24) ⟨_, _, _, _, _, _, _, _, _, _, rfl, l24, e24⟩ rfl fun _ _ _ _ _ _ us hl => match us, hl with | [_], _ => rfl⟩
      cl0 := ⟨pg0, hd0, po0, sa0⟩
      na0 := fun x hx => by
        simp only [names, List.mem_cons, List.not_mem_nil, or_false] at hx
        rcases hx with rfl | rfl | rfl | rfl | rfl | rfl
        · exact n0_0
        · exact n0_1
        · exact n0_2
        · exact n0_3
        · exact n0_4
        · exact n0_5
      in0 := ⟨⟨pg0, hd0, po0, sa0⟩, ha0, ghn, gtk, hm0, me0⟩
      mk0 := mk0
      kc0 := kc0
      mc0 := PySem.W.mg_of X G cx0
      sf0 := sf0
      cl1 := ⟨pg1, hd1, po1, sa1⟩
      na1 := fun x hx => by
        simp only [names, List.mem_cons, List.not_mem_nil, or_false] at hx
        rcases hx with rfl | rfl | rfl | rfl | rfl | rfl
        · exact n1_0
        · exact n1_1
        · exact n1_2
        · exact n1_3
        · exact n1_4
        · exact n1_5
      in1 := ⟨⟨pg1, hd1, po1, sa1⟩, ha1, ghn, gtk, hm1, me1⟩
      mk1 := mk1
      kc1 := kc1
      mc1 := PySem.W.mg_of X G cx1
      sf1 := sf1
      b_bool := PySem.W.mg_none_of X G z_bool
      b_enumerate := PySem.W.mg_none_of X G z_enumerate
      b_int := PySem.W.mg_none_of X G z_int
      b_isinstance := PySem.W.mg_none_of X G z_isinstance
      b_len := PySem.W.mg_none_of X G z_len
      b_list := PySem.W.mg_none_of X G z_list
      b_max := PySem.W.mg_none_of X G z_max
      b_min := PySem.W.mg_none_of X G z_min
      b_range := PySem.W.mg_none_of X G z_range
      b_set := PySem.W.mg_none_of X G z_set
      b_sorted := PySem.W.mg_none_of X G z_sorted
      b_tuple := PySem.W.mg_none_of X G z_tuple }
theorem fin {P : Program} {w : World} {K : PySem.W.Frag} {h : Heap} {mg : Str → Option Value} {fa C0 C1 a0 a1 a2 a3 a4 a5 a6 a7 a8 a9 a10 a11 a12 a13 a14 a15 a16 a17 a18 a19 a20 a21 a22 a23 a24 : Addr} {wf d : Nat} (main : ∀ ns : List Int, ns.length ≤ 63 → runD (Gn wf d) f24 [.lst .ro (ns.map D.int)] = some (.bl true)) (X : K.In h) (G : h.Ns mainGlobals mg) (hfa : mg "law" = some (.ref fa))
    (cx0 : PySem.W.nsIn K mainGlobals "Web" = some (some (.ref C0))) (pg0 : PySem.W.plainGet K C0 Str.empty = true) (hd0 : PySem.W.hasDictIn K C0 = true) (po0 : PySem.W.plainOver K C0 = true) (sa0 : PySem.W.findIn K (.ref C0) "__setattr__" = some (some (.builtin "object.__setattr__"))) (mk0 : PySem.W.makesIn K C0 = true) (kc0 : PySem.W.keepIn K (.ref C0) = true) (sf0 : PySem.W.selfFirst K C0 = true) (ha0 : PySem.W.findIn K (.ref C0) "__class__" = some (some (.builtin "object.__class__"))) (hm0 : PySem.W.mroIn K C0 (.type "object") = some true) (me0 : PySem.W.kitOne K (.ref C0) (.ref C0) = some true)
    (n0_0 : PySem.W.findIn K (.ref C0) "size" = some none)
    (n0_1 : PySem.W.findIn K (.ref C0) "lines" = some none)
    (n0_2 : PySem.W.findIn K (.ref C0) "masks" = some none)
    (n0_3 : PySem.W.findIn K (.ref C0) "_near" = some none)
    (n0_4 : PySem.W.findIn K (.ref C0) "web" = some none)
    (n0_5 : PySem.W.findIn K (.ref C0) "picture" = some none)
    (cx1 : PySem.W.nsIn K mainGlobals "Scene" = some (some (.ref C1))) (pg1 : PySem.W.plainGet K C1 Str.empty = true) (hd1 : PySem.W.hasDictIn K C1 = true) (po1 : PySem.W.plainOver K C1 = true) (sa1 : PySem.W.findIn K (.ref C1) "__setattr__" = some (some (.builtin "object.__setattr__"))) (mk1 : PySem.W.makesIn K C1 = true) (kc1 : PySem.W.keepIn K (.ref C1) = true) (sf1 : PySem.W.selfFirst K C1 = true) (ha1 : PySem.W.findIn K (.ref C1) "__class__" = some (some (.builtin "object.__class__"))) (hm1 : PySem.W.mroIn K C1 (.type "object") = some true) (me1 : PySem.W.kitOne K (.ref C1) (.ref C1) = some true)
    (n1_0 : PySem.W.findIn K (.ref C1) "size" = some none)
    (n1_1 : PySem.W.findIn K (.ref C1) "lines" = some none)
    (n1_2 : PySem.W.findIn K (.ref C1) "masks" = some none)
    (n1_3 : PySem.W.findIn K (.ref C1) "_near" = some none)
    (n1_4 : PySem.W.findIn K (.ref C1) "web" = some none)
    (n1_5 : PySem.W.findIn K (.ref C1) "picture" = some none)
    {o0 : Option Addr} {an0 : Option Addr} {sl0 : Array (Option Value)} {oc0 kV0 dc0 pm0 cd0 ct0 : Value}
    (x0 : PySem.W.nsIn K mainGlobals "places_of" = some (some (.ref a0)))
    (l0 : K.lookup a0 = some ⟨oc0, o0, .func (PySem.W.fnOf "places_of" "places_of" (C8.fnArgs s0) (C8.fnBody s0) (C8.fnScope s0) .none kV0 dc0 pm0 an0 cd0 ct0), sl0⟩) (e0 : PySem.W.codeIn K cd0 "places_of" = true) (u0 : PySem.W.keepIn K (.ref a0) = true)
    {o1 : Option Addr} {an1 : Option Addr} {sl1 : Array (Option Value)} {oc1 kV1 dc1 pm1 cd1 ct1 : Value}
    (x1 : PySem.W.nsIn K mainGlobals "near_masks" = some (some (.ref a1)))
    (l1 : K.lookup a1 = some ⟨oc1, o1, .func (PySem.W.fnOf "near_masks" "near_masks" (C8.fnArgs s1) (C8.fnBody s1) (C8.fnScope s1) .none kV1 dc1 pm1 an1 cd1 ct1), sl1⟩) (e1 : PySem.W.codeIn K cd1 "near_masks" = true) (u1 : PySem.W.keepIn K (.ref a1) = true)
    {o2 : Option Addr} {an2 : Option Addr} {sl2 : Array (Option Value)} {oc2 kV2 dc2 pm2 cd2 ct2 : Value}
    (x2 : PySem.W.nsIn K mainGlobals "spread" = some (some (.ref a2)))
    (l2 : K.lookup a2 = some ⟨oc2, o2, .func (PySem.W.fnOf "spread" "spread" (C8.fnArgs s2) (C8.fnBody s2) (C8.fnScope s2) .none kV2 dc2 pm2 an2 cd2 ct2), sl2⟩) (e2 : PySem.W.codeIn K cd2 "spread" = true) (u2 : PySem.W.keepIn K (.ref a2) = true)
    {T3 : Addr}
    {o3 : Option Addr} {an3 : Option Addr} {sl3 : Array (Option Value)} {oc3 kV3 dc3 pm3 cd3 ct3 : Value}
    (x3 : PySem.W.findIn K (.ref C0) "__init__" = some (some (.ref a3))) (i3 : PySem.W.isFn K (.ref a3) = true)
    (l3 : K.lookup a3 = some ⟨oc3, o3, .func (PySem.W.fnOf "__init__" "Web.__init__" (C8.fnArgs s3) (C8.fnBody s3) (C8.fnScope s3) (.ref T3) kV3 dc3 pm3 an3 cd3 ct3), sl3⟩) (e3 : PySem.W.codeIn K cd3 "Web.__init__" = true) (u3 : PySem.W.keepIn K (.ref a3) = true)
    {U3_0 : Addr} {uo3_0 : Option Addr} {un3_0 : Nat} {us3_0 : Array (Option Value)} (w3_0 : K.lookup U3_0 = some ⟨.type "tuple", uo3_0, .seq #[] un3_0, us3_0⟩)
    {tc3 : Value} {to3 : Option Addr} {tn3 : Nat} {ts3 : Array (Option Value)} (v3 : K.lookup T3 = some ⟨tc3, to3, .seq #[.ref U3_0] tn3, ts3⟩)
    {o4 : Option Addr} {an4 : Option Addr} {sl4 : Array (Option Value)} {oc4 kV4 dc4 pm4 cd4 ct4 : Value}
    (x4 : PySem.W.findIn K (.ref C0) "__eq__" = some (some (.ref a4))) (i4 : PySem.W.isFn K (.ref a4) = true)
    (l4 : K.lookup a4 = some ⟨oc4, o4, .func (PySem.W.fnOf "__eq__" "Web.__eq__" (C8.fnArgs s4) (C8.fnBody s4) (C8.fnScope s4) .none kV4 dc4 pm4 an4 cd4 ct4), sl4⟩) (e4 : PySem.W.codeIn K cd4 "Web.__eq__" = true) (u4 : PySem.W.keepIn K (.ref a4) = true)
    {o5 : Option Addr} {an5 : Option Addr} {sl5 : Array (Option Value)} {oc5 kV5 dc5 pm5 cd5 ct5 : Value}
    (x5 : PySem.W.nsIn K mainGlobals "check_lines" = some (some (.ref a5)))
    (l5 : K.lookup a5 = some ⟨oc5, o5, .func (PySem.W.fnOf "check_lines" "check_lines" (C8.fnArgs s5) (C8.fnBody s5) (C8.fnScope s5) .none kV5 dc5 pm5 an5 cd5 ct5), sl5⟩) (e5 : PySem.W.codeIn K cd5 "check_lines" = true) (u5 : PySem.W.keepIn K (.ref a5) = true)
    {o6 : Option Addr} {an6 : Option Addr} {sl6 : Array (Option Value)} {oc6 kV6 dc6 pm6 cd6 ct6 : Value}
    (x6 : PySem.W.findIn K (.ref C1) "__init__" = some (some (.ref a6))) (i6 : PySem.W.isFn K (.ref a6) = true)
    (l6 : K.lookup a6 = some ⟨oc6, o6, .func (PySem.W.fnOf "__init__" "Scene.__init__" (C8.fnArgs s6) (C8.fnBody s6) (C8.fnScope s6) .none kV6 dc6 pm6 an6 cd6 ct6), sl6⟩) (e6 : PySem.W.codeIn K cd6 "Scene.__init__" = true) (u6 : PySem.W.keepIn K (.ref a6) = true)
    {o7 : Option Addr} {an7 : Option Addr} {sl7 : Array (Option Value)} {oc7 kV7 dc7 pm7 cd7 ct7 : Value}
    (x7 : PySem.W.findIn K (.ref C1) "__eq__" = some (some (.ref a7))) (i7 : PySem.W.isFn K (.ref a7) = true)
    (l7 : K.lookup a7 = some ⟨oc7, o7, .func (PySem.W.fnOf "__eq__" "Scene.__eq__" (C8.fnArgs s7) (C8.fnBody s7) (C8.fnScope s7) .none kV7 dc7 pm7 an7 cd7 ct7), sl7⟩) (e7 : PySem.W.codeIn K cd7 "Scene.__eq__" = true) (u7 : PySem.W.keepIn K (.ref a7) = true)
    {o8 : Option Addr} {an8 : Option Addr} {sl8 : Array (Option Value)} {oc8 kV8 dc8 pm8 cd8 ct8 : Value}
    (x8 : PySem.W.nsIn K mainGlobals "check_picture" = some (some (.ref a8)))
    (l8 : K.lookup a8 = some ⟨oc8, o8, .func (PySem.W.fnOf "check_picture" "check_picture" (C8.fnArgs s8) (C8.fnBody s8) (C8.fnScope s8) .none kV8 dc8 pm8 an8 cd8 ct8), sl8⟩) (e8 : PySem.W.codeIn K cd8 "check_picture" = true) (u8 : PySem.W.keepIn K (.ref a8) = true)
    {o9 : Option Addr} {an9 : Option Addr} {sl9 : Array (Option Value)} {oc9 kV9 dc9 pm9 cd9 ct9 : Value}
    (x9 : PySem.W.nsIn K mainGlobals "masks_of_scene" = some (some (.ref a9)))
    (l9 : K.lookup a9 = some ⟨oc9, o9, .func (PySem.W.fnOf "masks_of_scene" "masks_of_scene" (C8.fnArgs s9) (C8.fnBody s9) (C8.fnScope s9) .none kV9 dc9 pm9 an9 cd9 ct9), sl9⟩) (e9 : PySem.W.codeIn K cd9 "masks_of_scene" = true) (u9 : PySem.W.keepIn K (.ref a9) = true)
    {o10 : Option Addr} {an10 : Option Addr} {sl10 : Array (Option Value)} {oc10 kV10 dc10 pm10 cd10 ct10 : Value}
    (x10 : PySem.W.nsIn K mainGlobals "scene_of_masks" = some (some (.ref a10)))
    (l10 : K.lookup a10 = some ⟨oc10, o10, .func (PySem.W.fnOf "scene_of_masks" "scene_of_masks" (C8.fnArgs s10) (C8.fnBody s10) (C8.fnScope s10) .none kV10 dc10 pm10 an10 cd10 ct10), sl10⟩) (e10 : PySem.W.codeIn K cd10 "scene_of_masks" = true) (u10 : PySem.W.keepIn K (.ref a10) = true)
    {o11 : Option Addr} {an11 : Option Addr} {sl11 : Array (Option Value)} {oc11 kV11 dc11 pm11 cd11 ct11 : Value}
    (x11 : PySem.W.nsIn K mainGlobals "poked_mask" = some (some (.ref a11)))
    (l11 : K.lookup a11 = some ⟨oc11, o11, .func (PySem.W.fnOf "poked_mask" "poked_mask" (C8.fnArgs s11) (C8.fnBody s11) (C8.fnScope s11) .none kV11 dc11 pm11 an11 cd11 ct11), sl11⟩) (e11 : PySem.W.codeIn K cd11 "poked_mask" = true) (u11 : PySem.W.keepIn K (.ref a11) = true)
    {o12 : Option Addr} {an12 : Option Addr} {sl12 : Array (Option Value)} {oc12 kV12 dc12 pm12 cd12 ct12 : Value}
    (x12 : PySem.W.nsIn K mainGlobals "next_masks" = some (some (.ref a12)))
    (l12 : K.lookup a12 = some ⟨oc12, o12, .func (PySem.W.fnOf "next_masks" "next_masks" (C8.fnArgs s12) (C8.fnBody s12) (C8.fnScope s12) .none kV12 dc12 pm12 an12 cd12 ct12), sl12⟩) (e12 : PySem.W.codeIn K cd12 "next_masks" = true) (u12 : PySem.W.keepIn K (.ref a12) = true)
    {T13 : Addr}
    {o13 : Option Addr} {an13 : Option Addr} {sl13 : Array (Option Value)} {oc13 kV13 dc13 pm13 cd13 ct13 : Value}
    (x13 : PySem.W.nsIn K mainGlobals "step" = some (some (.ref a13)))
    (l13 : K.lookup a13 = some ⟨oc13, o13, .func (PySem.W.fnOf "step" "step" (C8.fnArgs s13) (C8.fnBody s13) (C8.fnScope s13) (.ref T13) kV13 dc13 pm13 an13 cd13 ct13), sl13⟩) (e13 : PySem.W.codeIn K cd13 "step" = true) (u13 : PySem.W.keepIn K (.ref a13) = true)
    {U13_0 : Addr} {uo13_0 : Option Addr} {un13_0 : Nat} {us13_0 : Array (Option Value)} (w13_0 : K.lookup U13_0 = some ⟨.type "tuple", uo13_0, .seq #[] un13_0, us13_0⟩)
    {tc13 : Value} {to13 : Option Addr} {tn13 : Nat} {ts13 : Array (Option Value)} (v13 : K.lookup T13 = some ⟨tc13, to13, .seq #[.ref U13_0] tn13, ts13⟩)
    {o14 : Option Addr} {an14 : Option Addr} {sl14 : Array (Option Value)} {oc14 kV14 dc14 pm14 cd14 ct14 : Value}
    (x14 : PySem.W.nsIn K mainGlobals "_law_whole" = some (some (.ref a14)))
    (l14 : K.lookup a14 = some ⟨oc14, o14, .func (PySem.W.fnOf "_law_whole" "_law_whole" (C8.fnArgs s14) (C8.fnBody s14) (C8.fnScope s14) .none kV14 dc14 pm14 an14 cd14 ct14), sl14⟩) (e14 : PySem.W.codeIn K cd14 "_law_whole" = true) (u14 : PySem.W.keepIn K (.ref a14) = true)
    {o15 : Option Addr} {an15 : Option Addr} {sl15 : Array (Option Value)} {oc15 kV15 dc15 pm15 cd15 ct15 : Value}
    (x15 : PySem.W.nsIn K mainGlobals "_law_cell" = some (some (.ref a15)))
    (l15 : K.lookup a15 = some ⟨oc15, o15, .func (PySem.W.fnOf "_law_cell" "_law_cell" (C8.fnArgs s15) (C8.fnBody s15) (C8.fnScope s15) .none kV15 dc15 pm15 an15 cd15 ct15), sl15⟩) (e15 : PySem.W.codeIn K cd15 "_law_cell" = true) (u15 : PySem.W.keepIn K (.ref a15) = true)
    {o16 : Option Addr} {an16 : Option Addr} {sl16 : Array (Option Value)} {oc16 kV16 dc16 pm16 cd16 ct16 : Value}
    (x16 : PySem.W.nsIn K mainGlobals "_law_digits" = some (some (.ref a16)))
    (l16 : K.lookup a16 = some ⟨oc16, o16, .func (PySem.W.fnOf "_law_digits" "_law_digits" (C8.fnArgs s16) (C8.fnBody s16) (C8.fnScope s16) .none kV16 dc16 pm16 an16 cd16 ct16), sl16⟩) (e16 : PySem.W.codeIn K cd16 "_law_digits" = true) (u16 : PySem.W.keepIn K (.ref a16) = true)
    {o17 : Option Addr} {an17 : Option Addr} {sl17 : Array (Option Value)} {oc17 kV17 dc17 pm17 cd17 ct17 : Value}
    (x17 : PySem.W.nsIn K mainGlobals "_law_web" = some (some (.ref a17)))
    (l17 : K.lookup a17 = some ⟨oc17, o17, .func (PySem.W.fnOf "_law_web" "_law_web" (C8.fnArgs s17) (C8.fnBody s17) (C8.fnScope s17) .none kV17 dc17 pm17 an17 cd17 ct17), sl17⟩) (e17 : PySem.W.codeIn K cd17 "_law_web" = true) (u17 : PySem.W.keepIn K (.ref a17) = true)
    {o18 : Option Addr} {an18 : Option Addr} {sl18 : Array (Option Value)} {oc18 kV18 dc18 pm18 cd18 ct18 : Value}
    (x18 : PySem.W.nsIn K mainGlobals "_law_picture" = some (some (.ref a18)))
    (l18 : K.lookup a18 = some ⟨oc18, o18, .func (PySem.W.fnOf "_law_picture" "_law_picture" (C8.fnArgs s18) (C8.fnBody s18) (C8.fnScope s18) .none kV18 dc18 pm18 an18 cd18 ct18), sl18⟩) (e18 : PySem.W.codeIn K cd18 "_law_picture" = true) (u18 : PySem.W.keepIn K (.ref a18) = true)
    {o19 : Option Addr} {an19 : Option Addr} {sl19 : Array (Option Value)} {oc19 kV19 dc19 pm19 cd19 ct19 : Value}
    (x19 : PySem.W.nsIn K mainGlobals "_law_scene" = some (some (.ref a19)))
    (l19 : K.lookup a19 = some ⟨oc19, o19, .func (PySem.W.fnOf "_law_scene" "_law_scene" (C8.fnArgs s19) (C8.fnBody s19) (C8.fnScope s19) .none kV19 dc19 pm19 an19 cd19 ct19), sl19⟩) (e19 : PySem.W.codeIn K cd19 "_law_scene" = true) (u19 : PySem.W.keepIn K (.ref a19) = true)
    {o20 : Option Addr} {an20 : Option Addr} {sl20 : Array (Option Value)} {oc20 kV20 dc20 pm20 cd20 ct20 : Value}
    (x20 : PySem.W.nsIn K mainGlobals "_law_near" = some (some (.ref a20)))
    (l20 : K.lookup a20 = some ⟨oc20, o20, .func (PySem.W.fnOf "_law_near" "_law_near" (C8.fnArgs s20) (C8.fnBody s20) (C8.fnScope s20) .none kV20 dc20 pm20 an20 cd20 ct20), sl20⟩) (e20 : PySem.W.codeIn K cd20 "_law_near" = true) (u20 : PySem.W.keepIn K (.ref a20) = true)
    {o21 : Option Addr} {an21 : Option Addr} {sl21 : Array (Option Value)} {oc21 kV21 dc21 pm21 cd21 ct21 : Value}
    (x21 : PySem.W.nsIn K mainGlobals "_law_step" = some (some (.ref a21)))
    (l21 : K.lookup a21 = some ⟨oc21, o21, .func (PySem.W.fnOf "_law_step" "_law_step" (C8.fnArgs s21) (C8.fnBody s21) (C8.fnScope s21) .none kV21 dc21 pm21 an21 cd21 ct21), sl21⟩) (e21 : PySem.W.codeIn K cd21 "_law_step" = true) (u21 : PySem.W.keepIn K (.ref a21) = true)
    {o22 : Option Addr} {an22 : Option Addr} {sl22 : Array (Option Value)} {oc22 kV22 dc22 pm22 cd22 ct22 : Value}
    (x22 : PySem.W.nsIn K mainGlobals "_law_row" = some (some (.ref a22)))
    (l22 : K.lookup a22 = some ⟨oc22, o22, .func (PySem.W.fnOf "_law_row" "_law_row" (C8.fnArgs s22) (C8.fnBody s22) (C8.fnScope s22) .none kV22 dc22 pm22 an22 cd22 ct22), sl22⟩) (e22 : PySem.W.codeIn K cd22 "_law_row" = true) (u22 : PySem.W.keepIn K (.ref a22) = true)
    {o23 : Option Addr} {an23 : Option Addr} {sl23 : Array (Option Value)} {oc23 kV23 dc23 pm23 cd23 ct23 : Value}
    (x23 : PySem.W.nsIn K mainGlobals "_law_is_scene" = some (some (.ref a23)))
    (l23 : K.lookup a23 = some ⟨oc23, o23, .func (PySem.W.fnOf "_law_is_scene" "_law_is_scene" (C8.fnArgs s23) (C8.fnBody s23) (C8.fnScope s23) .none kV23 dc23 pm23 an23 cd23 ct23), sl23⟩) (e23 : PySem.W.codeIn K cd23 "_law_is_scene" = true) (u23 : PySem.W.keepIn K (.ref a23) = true)
    {o24 : Option Addr} {an24 : Option Addr} {sl24 : Array (Option Value)} {oc24 kV24 dc24 pm24 cd24 ct24 : Value}
    (x24 : PySem.W.nsIn K mainGlobals "law" = some (some (.ref a24)))
    (l24 : K.lookup a24 = some ⟨oc24, o24, .func (PySem.W.fnOf "law" "law" (C8.fnArgs s24) (C8.fnBody s24) (C8.fnScope s24) .none kV24 dc24 pm24 an24 cd24 ct24), sl24⟩) (e24 : PySem.W.codeIn K cd24 "law" = true) (u24 : PySem.W.keepIn K (.ref a24) = true)
    (ghn : PySem.W.specialIn K (.builtin "object.__class__") "__get__" = some (some (.builtin "getset_descriptor.__get__"))) (gtk : PySem.W.takesIn K (.builtin "object.__class__") = some true)
    (z_bool : PySem.W.nsIn K mainGlobals "bool" = some none)
    (z_enumerate : PySem.W.nsIn K mainGlobals "enumerate" = some none)
    (z_int : PySem.W.nsIn K mainGlobals "int" = some none)
    (z_isinstance : PySem.W.nsIn K mainGlobals "isinstance" = some none)
    (z_len : PySem.W.nsIn K mainGlobals "len" = some none)
    (z_list : PySem.W.nsIn K mainGlobals "list" = some none)
    (z_max : PySem.W.nsIn K mainGlobals "max" = some none)
    (z_min : PySem.W.nsIn K mainGlobals "min" = some none)
    (z_range : PySem.W.nsIn K mainGlobals "range" = some none)
    (z_set : PySem.W.nsIn K mainGlobals "set" = some none)
    (z_sorted : PySem.W.nsIn K mainGlobals "sorted" = some none)
    (z_tuple : PySem.W.nsIn K mainGlobals "tuple" = some none) :
    ∃ fd : FuncData, (∀ (s : Shared) (v : Value), BindsTo s fd ⟨[v], []⟩ [("script", v)]) ∧ ∀ base : Heap, K.In base → base.Ns mainGlobals mg → FnOk P w K mg base C8.CX0 (2 * d + 2) fa fd ["script"] (spLaw K) := by
  have FF := all_mk X G cx0 pg0 hd0 po0 sa0 mk0 kc0 sf0 ha0 hm0 me0 n0_0 n0_1 n0_2 n0_3 n0_4 n0_5 cx1 pg1 hd1 po1 sa1 mk1 kc1 sf1 ha1 hm1 me1 n1_0 n1_1 n1_2 n1_3 n1_4 n1_5 x0 l0 e0 u0 x1 l1 e1 u1 x2 l2 e2 u2 x3 i3 l3 e3 u3 w3_0 v3 x4 i4 l4 e4 u4 x5 l5 e5 u5 x6 i6 l6 e6 u6 x7 i7 l7 e7 u7 x8 l8 e8 u8 x9 l9 e9 u9 x10 l10 e10 u10 x11 l11 e11 u11 x12 l12 e12 u12 x13 l13 e13 u13 w13_0 v13 x14 l14 e14 u14 x15 l15 e15 u15 x16 l16 e16 u16 x17 l17 e17 u17 x18 l18 e18 u18 x19 l19 e19 u19 x20 l20 e20 u20 x21 l21 e21 u21 x22 l22 e22 u22 x23 l23 e23 u23 x24 l24 e24 u24 ghn gtk z_bool z_enumerate z_int z_isinstance z_len z_list z_max z_min z_range z_set z_sorted z_tuple
  have e := hfa.symm.trans FF.at24.mgf
  cases e
  exact ⟨_, fun s v => .of_eq rfl, fun base _ _ => law_ok FF wf d main⟩
end P5

/-! M5b: places_of. -/
namespace P5
open PySem L2 Z Bt
section
variable {G : Gd}
/-- places_of -/
theorem places_ok (hw : G.wf = 1000) (m B : Nat) (hm : m < 2 ^ B) (hB : B ≤ 900) : ∃ l : List Nat, runD G f0 [.int (m : Int)] = some (nsD l) ∧ l.Pairwise (· < ·) ∧ ∀ i, i ∈ l ↔ m.testBit i = true := by
  let J : Nat → Rho → Prop := fun n ρ => ∃ (l : List Nat) (k q : Nat) (v : Option D), ρ = [some (.int ((2 ^ k * q : Nat) : Int)), some (.lst .own (l.map nD)), v] ∧ l.Pairwise (· < ·) ∧ (∀ i ∈ l, i < k) ∧ (∀ i, m.testBit i = true ↔ (i ∈ l ∨ (2 ^ k * q).testBit i = true)) ∧ k + n = B + 1 ∧ l.length ≤ k
  let F : Rho → Prop := fun ρ => ∃ (l : List Nat) (v v2 : Option D), ρ = [v2, some (.lst .own (l.map nD)), v] ∧ l.Pairwise (· < ·) ∧ (∀ i, m.testBit i = true ↔ i ∈ l)
  obtain ⟨bd, hbd⟩ : ∃ x : Ss, x = .cons (.asg (.name 2) (.bin .BitAnd (.slot 0) (.un .USub (.slot 0)))) (.cons (.app 1 (.bin .Sub (.blt .bitlen (.cons (.slot 2) .nil)) (.con (.int 1)))) (.cons (.asg (.name 0) (.bin .BitXor (.slot 0) (.slot 2))) (.nil))) := ⟨_, rfl⟩
  have step : ∀ n ρ, J n ρ → (test G (.cmp .NotEq (.slot 0) (.con (.int 0))) ρ = some false ∧ F ρ) ∨ (test G (.cmp .NotEq (.slot 0) (.con (.int 0))) ρ = some true ∧ ∃ m' ρ', m' < n ∧ (runs G bd ρ = some (.nx ρ') ∨ runs G bd ρ = some (.ct ρ')) ∧ J m' ρ') := by
    rintro n ρ ⟨l, k, q, v, rfl, h1, h2, h3, h4, h5⟩
    by_cases hq : q = 0
    · subst hq
      refine .inl ⟨?_, l, v, _, rfl, h1, fun i => ?_⟩
      · simp only [ev_slot, ev_con, ev_bin, ev_un, ev_cmp, ev_chain, ev_and, ev_or, ev_not, ev_ite, ev_idx, ev_sl, ev_fld, ev_tup, ev_lst, ev_call, ev_mk, ev_blt, ev_isi, evs_nil, evs_cons, evT_nil, evT_one, evI_lst, evI_r1, evI_r2, evI_down, evI_enum, evI_zip, binG_i, binG_l, cmpG_i, cmpG_n, cmpG_tt, cmpG_ll, len_l, len_t, int_i, int_b, tuple_l, tuple_t, list_l, list_t, binD, cmpD, unD, isiD, kdD, isK, truD, test, kept, keptS, keptI, peek, peekS, frzL, frzAt_nil, frzAt_z, frzAt_n, frzAt_s, frz_int, frz_bl, frz_non, frz_tup, frz_objn, frz_ro, frz_own, frz_fz', List.getElem?_cons_zero, List.getElem?_cons_succ, List.nil_append, List.cons_append, Option.map_some, Option.map_none, Option.bind_some, List.set_cons_zero, List.set_cons_succ, List.set_nil, fz_int, fz_bl, fz_non, fz_tup, fz_lf, fz_lr, fz_lo, fz_on, D.scal, D.isN, Bool.and_true, Bool.true_and, Bool.and_self, Bool.not_true, Bool.not_false, if_true, if_false, Bool.false_eq_true, reduceIte, reduceCtorEq, seqD_l, seqD_t, frzS_ints, fzs_ints, List.length_map, Int.reduceLT, Int.reduceLE, Int.reduceNeg, Int.reduceToNat, Int.reduceAdd, Int.reduceSub, Int.reduceMul, Int.reducePow, decide_true, decide_false, Bool.or_true, Bool.true_or, Bool.or_false, Bool.false_or, Bool.false_and, Bool.and_false, ev_keep, roots, eqD_i, Nat.mul_zero]
        rfl
      · rw [h3]
        simp
    · right
      have hlt : 2 ^ k * q < 2 ^ B := by
        refine Nat.lt_pow_two_of_testBit _ fun i hi => ?_
        by_cases c : (2 ^ k * q).testBit i = true
        · have := (h3 i).mpr (.inr c)
          rw [Nat.testBit_lt_two_pow (Nat.lt_of_lt_of_le hm (Nat.pow_le_pow_right (by decide) hi))] at this
          cases this
        · simpa using c
      have hpos : 0 < 2 ^ k * q := Nat.mul_pos (Nat.two_pow_pos k) (by omega)
      obtain ⟨k', q', he⟩ := low_ex B (2 ^ k * q) hlt hpos
      have hk : k ≤ k' := by
        rcases Nat.lt_or_ge k' k with c | c
        · exfalso
          have a1 : (2 ^ k * q).testBit k' = true := by rw [he, low_bits]; simp
          rw [Nat.testBit_two_pow_mul] at a1
          simp at a1
          omega
        · exact c
      have hkB : k' < B := by
        have a1 : (2 ^ k * q).testBit k' = true := by rw [he, low_bits]; simp
        rcases Nat.lt_or_ge k' B with c | c
        · exact c
        · rw [Nat.testBit_lt_two_pow (Nat.lt_of_lt_of_le hlt (Nat.pow_le_pow_right (by decide) c))] at a1
          cases a1
      refine ⟨?_, B - k', [some (.int ((2 ^ (k' + 1) * q' : Nat) : Int)), some (.lst .own ((l ++ [k']).map nD)), some (.int ((2 ^ k' : Nat) : Int))], ?_, .inl ?_, l ++ [k'], k' + 1, q', _, rfl, ?_, ?_, ?_, by omega, by simp; omega⟩
      · have ne : (((2 ^ k * q : Nat) : Int) == 0) = false := by simp only [beq_eq_false_iff_ne]; omega
        simp only [ev_slot, ev_con, ev_bin, ev_un, ev_cmp, ev_chain, ev_and, ev_or, ev_not, ev_ite, ev_idx, ev_sl, ev_fld, ev_tup, ev_lst, ev_call, ev_mk, ev_blt, ev_isi, evs_nil, evs_cons, evT_nil, evT_one, evI_lst, evI_r1, evI_r2, evI_down, evI_enum, evI_zip, binG_i, binG_l, cmpG_i, cmpG_n, cmpG_tt, cmpG_ll, len_l, len_t, int_i, int_b, tuple_l, tuple_t, list_l, list_t, binD, cmpD, unD, isiD, kdD, isK, truD, test, kept, keptS, keptI, peek, peekS, frzL, frzAt_nil, frzAt_z, frzAt_n, frzAt_s, frz_int, frz_bl, frz_non, frz_tup, frz_objn, frz_ro, frz_own, frz_fz', List.getElem?_cons_zero, List.getElem?_cons_succ, List.nil_append, List.cons_append, Option.map_some, Option.map_none, Option.bind_some, List.set_cons_zero, List.set_cons_succ, List.set_nil, fz_int, fz_bl, fz_non, fz_tup, fz_lf, fz_lr, fz_lo, fz_on, D.scal, D.isN, Bool.and_true, Bool.true_and, Bool.and_self, Bool.not_true, Bool.not_false, if_true, if_false, Bool.false_eq_true, reduceIte, reduceCtorEq, seqD_l, seqD_t, frzS_ints, fzs_ints, List.length_map, Int.reduceLT, Int.reduceLE, Int.reduceNeg, Int.reduceToNat, Int.reduceAdd, Int.reduceSub, Int.reduceMul, Int.reducePow, decide_true, decide_false, Bool.or_true, Bool.true_or, Bool.or_false, Bool.false_or, Bool.false_and, Bool.and_false, ev_keep, roots, eqD_i, ne]
      · omega
      · subst hbd
        rw [he]
        refine runs_nx (run1_asg (ρ1 := [some (.int ((2 ^ k' * (2 * q' + 1) : Nat) : Int)), some (.lst .own (l.map nD)), v]) (by simp only [ev_slot, ev_con, ev_bin, ev_un, ev_cmp, ev_chain, ev_and, ev_or, ev_not, ev_ite, ev_idx, ev_sl, ev_fld, ev_tup, ev_lst, ev_call, ev_mk, ev_blt, ev_isi, evs_nil, evs_cons, evT_nil, evT_one, evI_lst, evI_r1, evI_r2, evI_down, evI_enum, evI_zip, binG_i, binG_l, cmpG_i, cmpG_n, cmpG_tt, cmpG_ll, len_l, len_t, int_i, int_b, tuple_l, tuple_t, list_l, list_t, binD, cmpD, unD, isiD, kdD, isK, truD, test, kept, keptS, keptI, peek, peekS, frzL, frzAt_nil, frzAt_z, frzAt_n, frzAt_s, frz_int, frz_bl, frz_non, frz_tup, frz_objn, frz_ro, frz_own, frz_fz', List.getElem?_cons_zero, List.getElem?_cons_succ, List.nil_append, List.cons_append, Option.map_some, Option.map_none, Option.bind_some, List.set_cons_zero, List.set_cons_succ, List.set_nil, fz_int, fz_bl, fz_non, fz_tup, fz_lf, fz_lr, fz_lo, fz_on, D.scal, D.isN, Bool.and_true, Bool.true_and, Bool.and_self, Bool.not_true, Bool.not_false, if_true, if_false, Bool.false_eq_true, reduceIte, reduceCtorEq, seqD_l, seqD_t, frzS_ints, fzs_ints, List.length_map, Int.reduceLT, Int.reduceLE, Int.reduceNeg, Int.reduceToNat, Int.reduceAdd, Int.reduceSub, Int.reduceMul, Int.reducePow, decide_true, decide_false, Bool.or_true, Bool.true_or, Bool.or_false, Bool.false_or, Bool.false_and, Bool.and_false, ev_keep, roots]) (d := .int ((2 ^ k' : Nat) : Int)) ?_ rfl) ?_
        · simp only [ev_slot, ev_con, ev_bin, ev_un, ev_cmp, ev_chain, ev_and, ev_or, ev_not, ev_ite, ev_idx, ev_sl, ev_fld, ev_tup, ev_lst, ev_call, ev_mk, ev_blt, ev_isi, evs_nil, evs_cons, evT_nil, evT_one, evI_lst, evI_r1, evI_r2, evI_down, evI_enum, evI_zip, binG_i, binG_l, cmpG_i, cmpG_n, cmpG_tt, cmpG_ll, len_l, len_t, int_i, int_b, tuple_l, tuple_t, list_l, list_t, binD, cmpD, unD, isiD, kdD, isK, truD, test, kept, keptS, keptI, peek, peekS, frzL, frzAt_nil, frzAt_z, frzAt_n, frzAt_s, frz_int, frz_bl, frz_non, frz_tup, frz_objn, frz_ro, frz_own, frz_fz', List.getElem?_cons_zero, List.getElem?_cons_succ, List.nil_append, List.cons_append, Option.map_some, Option.map_none, Option.bind_some, List.set_cons_zero, List.set_cons_succ, List.set_nil, fz_int, fz_bl, fz_non, fz_tup, fz_lf, fz_lr, fz_lo, fz_on, D.scal, D.isN, Bool.and_true, Bool.true_and, Bool.and_self, Bool.not_true, Bool.not_false, if_true, if_false, Bool.false_eq_true, reduceIte, reduceCtorEq, seqD_l, seqD_t, frzS_ints, fzs_ints, List.length_map, Int.reduceLT, Int.reduceLE, Int.reduceNeg, Int.reduceToNat, Int.reduceAdd, Int.reduceSub, Int.reduceMul, Int.reducePow, decide_true, decide_false, Bool.or_true, Bool.true_or, Bool.or_false, Bool.false_or, Bool.false_and, Bool.and_false, ev_keep, roots, low_and]
        · refine runs_nx (run1_app (ρ1 := [some (.int ((2 ^ k' * (2 * q' + 1) : Nat) : Int)), some (.lst .own (l.map nD)), some (.int ((2 ^ k' : Nat) : Int))]) (ds := l.map nD) (d := nD k') (by simp only [ev_slot, ev_con, ev_bin, ev_un, ev_cmp, ev_chain, ev_and, ev_or, ev_not, ev_ite, ev_idx, ev_sl, ev_fld, ev_tup, ev_lst, ev_call, ev_mk, ev_blt, ev_isi, evs_nil, evs_cons, evT_nil, evT_one, evI_lst, evI_r1, evI_r2, evI_down, evI_enum, evI_zip, binG_i, binG_l, cmpG_i, cmpG_n, cmpG_tt, cmpG_ll, len_l, len_t, int_i, int_b, tuple_l, tuple_t, list_l, list_t, binD, cmpD, unD, isiD, kdD, isK, truD, test, kept, keptS, keptI, peek, peekS, frzL, frzAt_nil, frzAt_z, frzAt_n, frzAt_s, frz_int, frz_bl, frz_non, frz_tup, frz_objn, frz_ro, frz_own, frz_fz', List.getElem?_cons_zero, List.getElem?_cons_succ, List.nil_append, List.cons_append, Option.map_some, Option.map_none, Option.bind_some, List.set_cons_zero, List.set_cons_succ, List.set_nil, fz_int, fz_bl, fz_non, fz_tup, fz_lf, fz_lr, fz_lo, fz_on, D.scal, D.isN, Bool.and_true, Bool.true_and, Bool.and_self, Bool.not_true, Bool.not_false, if_true, if_false, Bool.false_eq_true, reduceIte, reduceCtorEq, seqD_l, seqD_t, frzS_ints, fzs_ints, List.length_map, Int.reduceLT, Int.reduceLE, Int.reduceNeg, Int.reduceToNat, Int.reduceAdd, Int.reduceSub, Int.reduceMul, Int.reducePow, decide_true, decide_false, Bool.or_true, Bool.true_or, Bool.or_false, Bool.false_or, Bool.false_and, Bool.and_false, ev_keep, roots]) ?_ rfl (by rw [List.length_map]; unfold most; omega)) ?_
          · have eb : bltG G .bitlen [.int ((2 ^ k' : Nat) : Int)] = some (.int ((k' + 1 : Nat) : Int)) := by
              show some (D.int ((Builtin.Int.intBits ((2 ^ k' : Nat) : Int) : Nat) : Int)) = _
              rw [low_bitlen]
            simp only [ev_slot, ev_con, ev_bin, ev_un, ev_cmp, ev_chain, ev_and, ev_or, ev_not, ev_ite, ev_idx, ev_sl, ev_fld, ev_tup, ev_lst, ev_call, ev_mk, ev_blt, ev_isi, evs_nil, evs_cons, evT_nil, evT_one, evI_lst, evI_r1, evI_r2, evI_down, evI_enum, evI_zip, binG_i, binG_l, cmpG_i, cmpG_n, cmpG_tt, cmpG_ll, len_l, len_t, int_i, int_b, tuple_l, tuple_t, list_l, list_t, binD, cmpD, unD, isiD, kdD, isK, truD, test, kept, keptS, keptI, peek, peekS, frzL, frzAt_nil, frzAt_z, frzAt_n, frzAt_s, frz_int, frz_bl, frz_non, frz_tup, frz_objn, frz_ro, frz_own, frz_fz', List.getElem?_cons_zero, List.getElem?_cons_succ, List.nil_append, List.cons_append, Option.map_some, Option.map_none, Option.bind_some, List.set_cons_zero, List.set_cons_succ, List.set_nil, fz_int, fz_bl, fz_non, fz_tup, fz_lf, fz_lr, fz_lo, fz_on, D.scal, D.isN, Bool.and_true, Bool.true_and, Bool.and_self, Bool.not_true, Bool.not_false, if_true, if_false, Bool.false_eq_true, reduceIte, reduceCtorEq, seqD_l, seqD_t, frzS_ints, fzs_ints, List.length_map, Int.reduceLT, Int.reduceLE, Int.reduceNeg, Int.reduceToNat, Int.reduceAdd, Int.reduceSub, Int.reduceMul, Int.reducePow, decide_true, decide_false, Bool.or_true, Bool.true_or, Bool.or_false, Bool.false_or, Bool.false_and, Bool.and_false, ev_keep, roots, eb]
            rw [show (((k' + 1 : Nat) : Int) - 1) = (k' : Int) by omega]
            rfl
          · refine runs_nx (run1_asg (ρ1 := [some (.int ((2 ^ k' * (2 * q' + 1) : Nat) : Int)), some (.lst .own (l.map nD ++ [nD k'])), some (.int ((2 ^ k' : Nat) : Int))]) (by simp only [ev_slot, ev_con, ev_bin, ev_un, ev_cmp, ev_chain, ev_and, ev_or, ev_not, ev_ite, ev_idx, ev_sl, ev_fld, ev_tup, ev_lst, ev_call, ev_mk, ev_blt, ev_isi, evs_nil, evs_cons, evT_nil, evT_one, evI_lst, evI_r1, evI_r2, evI_down, evI_enum, evI_zip, binG_i, binG_l, cmpG_i, cmpG_n, cmpG_tt, cmpG_ll, len_l, len_t, int_i, int_b, tuple_l, tuple_t, list_l, list_t, binD, cmpD, unD, isiD, kdD, isK, truD, test, kept, keptS, keptI, peek, peekS, frzL, frzAt_nil, frzAt_z, frzAt_n, frzAt_s, frz_int, frz_bl, frz_non, frz_tup, frz_objn, frz_ro, frz_own, frz_fz', List.getElem?_cons_zero, List.getElem?_cons_succ, List.nil_append, List.cons_append, Option.map_some, Option.map_none, Option.bind_some, List.set_cons_zero, List.set_cons_succ, List.set_nil, fz_int, fz_bl, fz_non, fz_tup, fz_lf, fz_lr, fz_lo, fz_on, D.scal, D.isN, Bool.and_true, Bool.true_and, Bool.and_self, Bool.not_true, Bool.not_false, if_true, if_false, Bool.false_eq_true, reduceIte, reduceCtorEq, seqD_l, seqD_t, frzS_ints, fzs_ints, List.length_map, Int.reduceLT, Int.reduceLE, Int.reduceNeg, Int.reduceToNat, Int.reduceAdd, Int.reduceSub, Int.reduceMul, Int.reducePow, decide_true, decide_false, Bool.or_true, Bool.true_or, Bool.or_false, Bool.false_or, Bool.false_and, Bool.and_false, ev_keep, roots]) (d := .int ((2 ^ (k' + 1) * q' : Nat) : Int)) ?_ rfl) ?_
            · simp only [ev_slot, ev_con, ev_bin, ev_un, ev_cmp, ev_chain, ev_and, ev_or, ev_not, ev_ite, ev_idx, ev_sl, ev_fld, ev_tup, ev_lst, ev_call, ev_mk, ev_blt, ev_isi, evs_nil, evs_cons, evT_nil, evT_one, evI_lst, evI_r1, evI_r2, evI_down, evI_enum, evI_zip, binG_i, binG_l, cmpG_i, cmpG_n, cmpG_tt, cmpG_ll, len_l, len_t, int_i, int_b, tuple_l, tuple_t, list_l, list_t, binD, cmpD, unD, isiD, kdD, isK, truD, test, kept, keptS, keptI, peek, peekS, frzL, frzAt_nil, frzAt_z, frzAt_n, frzAt_s, frz_int, frz_bl, frz_non, frz_tup, frz_objn, frz_ro, frz_own, frz_fz', List.getElem?_cons_zero, List.getElem?_cons_succ, List.nil_append, List.cons_append, Option.map_some, Option.map_none, Option.bind_some, List.set_cons_zero, List.set_cons_succ, List.set_nil, fz_int, fz_bl, fz_non, fz_tup, fz_lf, fz_lr, fz_lo, fz_on, D.scal, D.isN, Bool.and_true, Bool.true_and, Bool.and_self, Bool.not_true, Bool.not_false, if_true, if_false, Bool.false_eq_true, reduceIte, reduceCtorEq, seqD_l, seqD_t, frzS_ints, fzs_ints, List.length_map, Int.reduceLT, Int.reduceLE, Int.reduceNeg, Int.reduceToNat, Int.reduceAdd, Int.reduceSub, Int.reduceMul, Int.reducePow, decide_true, decide_false, Bool.or_true, Bool.true_or, Bool.or_false, Bool.false_or, Bool.false_and, Bool.and_false, ev_keep, roots, low_xor]
            · rw [runs_nil]
              simp only [ev_slot, ev_con, ev_bin, ev_un, ev_cmp, ev_chain, ev_and, ev_or, ev_not, ev_ite, ev_idx, ev_sl, ev_fld, ev_tup, ev_lst, ev_call, ev_mk, ev_blt, ev_isi, evs_nil, evs_cons, evT_nil, evT_one, evI_lst, evI_r1, evI_r2, evI_down, evI_enum, evI_zip, binG_i, binG_l, cmpG_i, cmpG_n, cmpG_tt, cmpG_ll, len_l, len_t, int_i, int_b, tuple_l, tuple_t, list_l, list_t, binD, cmpD, unD, isiD, kdD, isK, truD, test, kept, keptS, keptI, peek, peekS, frzL, frzAt_nil, frzAt_z, frzAt_n, frzAt_s, frz_int, frz_bl, frz_non, frz_tup, frz_objn, frz_ro, frz_own, frz_fz', List.getElem?_cons_zero, List.getElem?_cons_succ, List.nil_append, List.cons_append, Option.map_some, Option.map_none, Option.bind_some, List.set_cons_zero, List.set_cons_succ, List.set_nil, fz_int, fz_bl, fz_non, fz_tup, fz_lf, fz_lr, fz_lo, fz_on, D.scal, D.isN, Bool.and_true, Bool.true_and, Bool.and_self, Bool.not_true, Bool.not_false, if_true, if_false, Bool.false_eq_true, reduceIte, reduceCtorEq, seqD_l, seqD_t, frzS_ints, fzs_ints, List.length_map, Int.reduceLT, Int.reduceLE, Int.reduceNeg, Int.reduceToNat, Int.reduceAdd, Int.reduceSub, Int.reduceMul, Int.reducePow, decide_true, decide_false, Bool.or_true, Bool.true_or, Bool.or_false, Bool.false_or, Bool.false_and, Bool.and_false, ev_keep, roots, List.map_append, List.map_cons, List.map_nil]
      · refine List.pairwise_append.mpr ⟨h1, List.pairwise_singleton _ _, fun a ha b hb => ?_⟩
        rw [List.mem_singleton.mp hb]
        exact Nat.lt_of_lt_of_le (h2 a ha) hk
      · intro i hi
        rcases List.mem_append.mp hi with hi | hi
        · exact Nat.lt_succ_of_lt (Nat.lt_of_lt_of_le (h2 i hi) hk)
        · rw [List.mem_singleton.mp hi]
          exact Nat.lt_succ_self _
      · intro i
        rw [h3 i, he, low_bits, List.mem_append, List.mem_singleton, Nat.testBit_two_pow_mul]
        by_cases c : i < k'
        · have c1 : ¬ i = k' := by omega
          have c2 : ¬ k' + 1 ≤ i := by omega
          simp [c, c1, c2]
        · by_cases e : i = k'
          · subst e; simp
          · have c2 : k' + 1 ≤ i := by omega
            rw [if_neg c, if_neg e]
            obtain ⟨j, rfl⟩ : ∃ j, i = k' + 1 + j := ⟨i - (k' + 1), by omega⟩
            rw [show k' + 1 + j - k' = j + 1 by omega, show k' + 1 + j - (k' + 1) = j by omega, Nat.testBit_succ, show (2 * q' + 1) / 2 = q' by omega]
            simp [c2, e]
  obtain ⟨ρ', h1, l, v, v2, rfl, h2, h3⟩ := while_inv J F step (B + 1) 1000 [some (.int (m : Int)), some (.lst .own []), none] ⟨[], 0, m, none, by simp, List.Pairwise.nil, by simp, by simp, by omega, by simp⟩ (by omega)
  refine ⟨l, runD_rt rfl ?_, h2, fun i => (h3 i).symm⟩
  show runs G b0 [some (.int (m : Int)), none, none] = _
  unfold b0
  refine runs_nx (run1_asg (ρ1 := [some (.int (m : Int)), none, none]) (by simp only [ev_slot, ev_con, ev_bin, ev_un, ev_cmp, ev_chain, ev_and, ev_or, ev_not, ev_ite, ev_idx, ev_sl, ev_fld, ev_tup, ev_lst, ev_call, ev_mk, ev_blt, ev_isi, evs_nil, evs_cons, evT_nil, evT_one, evI_lst, evI_r1, evI_r2, evI_down, evI_enum, evI_zip, binG_i, binG_l, cmpG_i, cmpG_n, cmpG_tt, cmpG_ll, len_l, len_t, int_i, int_b, tuple_l, tuple_t, list_l, list_t, binD, cmpD, unD, isiD, kdD, isK, truD, test, kept, keptS, keptI, peek, peekS, frzL, frzAt_nil, frzAt_z, frzAt_n, frzAt_s, frz_int, frz_bl, frz_non, frz_tup, frz_objn, frz_ro, frz_own, frz_fz', List.getElem?_cons_zero, List.getElem?_cons_succ, List.nil_append, List.cons_append, Option.map_some, Option.map_none, Option.bind_some, List.set_cons_zero, List.set_cons_succ, List.set_nil, fz_int, fz_bl, fz_non, fz_tup, fz_lf, fz_lr, fz_lo, fz_on, D.scal, D.isN, Bool.and_true, Bool.true_and, Bool.and_self, Bool.not_true, Bool.not_false, if_true, if_false, Bool.false_eq_true, reduceIte, reduceCtorEq, seqD_l, seqD_t, frzS_ints, fzs_ints, List.length_map, Int.reduceLT, Int.reduceLE, Int.reduceNeg, Int.reduceToNat, Int.reduceAdd, Int.reduceSub, Int.reduceMul, Int.reducePow, decide_true, decide_false, Bool.or_true, Bool.true_or, Bool.or_false, Bool.false_or, Bool.false_and, Bool.and_false, ev_keep, roots]) (d := .lst .own []) ?_ rfl) (runs_nx (run1_while (ρ1 := [some (.int (m : Int)), some (.lst .own []), none]) (by simp only [ev_slot, ev_con, ev_bin, ev_un, ev_cmp, ev_chain, ev_and, ev_or, ev_not, ev_ite, ev_idx, ev_sl, ev_fld, ev_tup, ev_lst, ev_call, ev_mk, ev_blt, ev_isi, evs_nil, evs_cons, evT_nil, evT_one, evI_lst, evI_r1, evI_r2, evI_down, evI_enum, evI_zip, binG_i, binG_l, cmpG_i, cmpG_n, cmpG_tt, cmpG_ll, len_l, len_t, int_i, int_b, tuple_l, tuple_t, list_l, list_t, binD, cmpD, unD, isiD, kdD, isK, truD, test, kept, keptS, keptI, peek, peekS, frzL, frzAt_nil, frzAt_z, frzAt_n, frzAt_s, frz_int, frz_bl, frz_non, frz_tup, frz_objn, frz_ro, frz_own, frz_fz', List.getElem?_cons_zero, List.getElem?_cons_succ, List.nil_append, List.cons_append, Option.map_some, Option.map_none, Option.bind_some, List.set_cons_zero, List.set_cons_succ, List.set_nil, fz_int, fz_bl, fz_non, fz_tup, fz_lf, fz_lr, fz_lo, fz_on, D.scal, D.isN, Bool.and_true, Bool.true_and, Bool.and_self, Bool.not_true, Bool.not_false, if_true, if_false, Bool.false_eq_true, reduceIte, reduceCtorEq, seqD_l, seqD_t, frzS_ints, fzs_ints, List.length_map, Int.reduceLT, Int.reduceLE, Int.reduceNeg, Int.reduceToNat, Int.reduceAdd, Int.reduceSub, Int.reduceMul, Int.reducePow, decide_true, decide_false, Bool.or_true, Bool.true_or, Bool.or_false, Bool.false_or, Bool.false_and, Bool.and_false, ev_keep, roots]) (by rw [hw, ← hbd]; exact h1)) (runs_rt (run1_ret (ρ1 := [v2, some (.lst .own (l.map nD)), v]) (by simp only [ev_slot, ev_con, ev_bin, ev_un, ev_cmp, ev_chain, ev_and, ev_or, ev_not, ev_ite, ev_idx, ev_sl, ev_fld, ev_tup, ev_lst, ev_call, ev_mk, ev_blt, ev_isi, evs_nil, evs_cons, evT_nil, evT_one, evI_lst, evI_r1, evI_r2, evI_down, evI_enum, evI_zip, binG_i, binG_l, cmpG_i, cmpG_n, cmpG_tt, cmpG_ll, len_l, len_t, int_i, int_b, tuple_l, tuple_t, list_l, list_t, binD, cmpD, unD, isiD, kdD, isK, truD, test, kept, keptS, keptI, peek, peekS, frzL, frzAt_nil, frzAt_z, frzAt_n, frzAt_s, frz_int, frz_bl, frz_non, frz_tup, frz_objn, frz_ro, frz_own, frz_fz', List.getElem?_cons_zero, List.getElem?_cons_succ, List.nil_append, List.cons_append, Option.map_some, Option.map_none, Option.bind_some, List.set_cons_zero, List.set_cons_succ, List.set_nil, fz_int, fz_bl, fz_non, fz_tup, fz_lf, fz_lr, fz_lo, fz_on, D.scal, D.isN, Bool.and_true, Bool.true_and, Bool.and_self, Bool.not_true, Bool.not_false, if_true, if_false, Bool.false_eq_true, reduceIte, reduceCtorEq, seqD_l, seqD_t, frzS_ints, fzs_ints, List.length_map, Int.reduceLT, Int.reduceLE, Int.reduceNeg, Int.reduceToNat, Int.reduceAdd, Int.reduceSub, Int.reduceMul, Int.reducePow, decide_true, decide_false, Bool.or_true, Bool.true_or, Bool.or_false, Bool.false_or, Bool.false_and, Bool.and_false, ev_keep, roots]) ?_)))
  · simp only [ev_slot, ev_con, ev_bin, ev_un, ev_cmp, ev_chain, ev_and, ev_or, ev_not, ev_ite, ev_idx, ev_sl, ev_fld, ev_tup, ev_lst, ev_call, ev_mk, ev_blt, ev_isi, evs_nil, evs_cons, evT_nil, evT_one, evI_lst, evI_r1, evI_r2, evI_down, evI_enum, evI_zip, binG_i, binG_l, cmpG_i, cmpG_n, cmpG_tt, cmpG_ll, len_l, len_t, int_i, int_b, tuple_l, tuple_t, list_l, list_t, binD, cmpD, unD, isiD, kdD, isK, truD, test, kept, keptS, keptI, peek, peekS, frzL, frzAt_nil, frzAt_z, frzAt_n, frzAt_s, frz_int, frz_bl, frz_non, frz_tup, frz_objn, frz_ro, frz_own, frz_fz', List.getElem?_cons_zero, List.getElem?_cons_succ, List.nil_append, List.cons_append, Option.map_some, Option.map_none, Option.bind_some, List.set_cons_zero, List.set_cons_succ, List.set_nil, fz_int, fz_bl, fz_non, fz_tup, fz_lf, fz_lr, fz_lo, fz_on, D.scal, D.isN, Bool.and_true, Bool.true_and, Bool.and_self, Bool.not_true, Bool.not_false, if_true, if_false, Bool.false_eq_true, reduceIte, reduceCtorEq, seqD_l, seqD_t, frzS_ints, fzs_ints, List.length_map, Int.reduceLT, Int.reduceLE, Int.reduceNeg, Int.reduceToNat, Int.reduceAdd, Int.reduceSub, Int.reduceMul, Int.reducePow, decide_true, decide_false, Bool.or_true, Bool.true_or, Bool.or_false, Bool.false_or, Bool.false_and, Bool.and_false, ev_keep, roots]
    rfl
  · simp only [ev_slot, ev_con, ev_bin, ev_un, ev_cmp, ev_chain, ev_and, ev_or, ev_not, ev_ite, ev_idx, ev_sl, ev_fld, ev_tup, ev_lst, ev_call, ev_mk, ev_blt, ev_isi, evs_nil, evs_cons, evT_nil, evT_one, evI_lst, evI_r1, evI_r2, evI_down, evI_enum, evI_zip, binG_i, binG_l, cmpG_i, cmpG_n, cmpG_tt, cmpG_ll, len_l, len_t, int_i, int_b, tuple_l, tuple_t, list_l, list_t, binD, cmpD, unD, isiD, kdD, isK, truD, test, kept, keptS, keptI, peek, peekS, frzL, frzAt_nil, frzAt_z, frzAt_n, frzAt_s, frz_int, frz_bl, frz_non, frz_tup, frz_objn, frz_ro, frz_own, frz_fz', List.getElem?_cons_zero, List.getElem?_cons_succ, List.nil_append, List.cons_append, Option.map_some, Option.map_none, Option.bind_some, List.set_cons_zero, List.set_cons_succ, List.set_nil, fz_int, fz_bl, fz_non, fz_tup, fz_lf, fz_lr, fz_lo, fz_on, D.scal, D.isN, Bool.and_true, Bool.true_and, Bool.and_self, Bool.not_true, Bool.not_false, if_true, if_false, Bool.false_eq_true, reduceIte, reduceCtorEq, seqD_l, seqD_t, frzS_ints, fzs_ints, List.length_map, Int.reduceLT, Int.reduceLE, Int.reduceNeg, Int.reduceToNat, Int.reduceAdd, Int.reduceSub, Int.reduceMul, Int.reducePow, decide_true, decide_false, Bool.or_true, Bool.true_or, Bool.or_false, Bool.false_or, Bool.false_and, Bool.and_false, ev_keep, roots, fzs_n]
    rfl
end
end P5

/-! M5c: near_masks. -/
namespace P5
open PySem L2 Z Bt
def webD (n : Nat) (ls : List (Nat × Nat)) (ms : List Nat) (nr : List (List Nat)) : D := .obj none 0 [0, 1, 2, 3] [nD n, .tup (ls.map lineD), .tup (ms.map nD), .tup (nr.map nsD)]
def scD (w : D) (pic : List Nat) : D := .obj none 1 [4, 5] [w, nsD pic]
section
variable {G : Gd} {ρ : Rho}
/-- near_masks -/
theorem near_masks_ok {n : Nat} (hn : n ≤ 1000) {ls : List (Nat × Nat)} (hl : ∀ p ∈ ls, p.1 < n ∧ p.2 < n) : ∃ ms : List Nat, runD G f1 [nD n, .tup (ls.map lineD)] = some (nsD ms) ∧ Masks n ls ms := by
  obtain ⟨bd, hbd⟩ : ∃ x : Ss, x = .cons (.sub 2 (.slot 3) (.bin .BitOr (.idx (.slot 2) (.slot 3)) (.bin .LShift (.con (.int 1)) (.slot 4)))) (.cons (.sub 2 (.slot 4) (.bin .BitOr (.idx (.slot 2) (.slot 4)) (.bin .LShift (.con (.int 1)) (.slot 3)))) (.nil)) := ⟨_, rfl⟩
  obtain ⟨ρ', h1, ms, v3, v4, rfl, h2, h3⟩ := for_inv (bd := bindT (.tup [.name 3, .name 4])) (body := runs G bd) (items := ls.map lineD) (ρ := [some (nD n), some (.tup (ls.map lineD)), some (.lst .own ((List.replicate n 0).map nD)), none, none, none])
    (fun i ρ => ∃ (ms : List Nat) (v3 v4 : Option D), ρ = [some (nD n), some (.tup (ls.map lineD)), some (.lst .own (ms.map nD)), v3, v4, none] ∧ ms.length = n ∧ ∀ a b, (ms.getD a 0).testBit b = true ↔ Adj (ls.take i) a b)
    ⟨_, none, none, rfl, by simp, fun a b => by
      rw [List.take_zero]
      constructor
      · intro h
        rw [List.getD_eq_getElem?_getD, List.getElem?_replicate] at h
        split at h <;> simp at h
      · rintro ⟨p, hp, _⟩
        cases hp⟩
    (by
      rintro i d ρ hi ⟨ms, v3, v4, rfl, h2, h3⟩
      rw [List.getElem?_map] at hi
      obtain ⟨⟨a, b⟩, hp, rfl⟩ := Option.map_eq_some_iff.mp hi
      obtain ⟨ha, hb⟩ := hl (a, b) (List.mem_of_getElem? hp)
      dsimp only at ha hb
      have la : a < ms.length := by omega
      have lb : b < (ms.set a (ms.getD a 0 ||| 2 ^ b)).length := by rw [List.length_set]; omega
      subst hbd
      refine ⟨[some (nD n), some (.tup (ls.map lineD)), some (.lst .own (ms.map nD)), some (nD a), some (nD b), none], [some (nD n), some (.tup (ls.map lineD)), some (.lst .own (((ms.set a (ms.getD a 0 ||| 2 ^ b)).set b ((ms.set a (ms.getD a 0 ||| 2 ^ b)).getD b 0 ||| 2 ^ a)).map nD)), some (nD a), some (nD b), none], rfl, .inl ?_, _, _, _, rfl, by rw [List.length_set, List.length_set, h2], ?_⟩
      · refine runs_nx (run1_sub (ρ1 := [some (nD n), some (.tup (ls.map lineD)), some (.lst .own (ms.map nD)), some (nD a), some (nD b), none]) (d := nD (ms.getD a 0 ||| 2 ^ b)) (j := (a : Int)) (f := true) (ds := ms.map nD) ?_ ?_ ?_ rfl (fzs_n _) rfl (by omega) (by rw [List.length_map]; omega)) ?_
        · simp only [ev_slot, ev_con, ev_bin, ev_un, ev_cmp, ev_chain, ev_and, ev_or, ev_not, ev_ite, ev_idx, ev_sl, ev_fld, ev_tup, ev_lst, ev_call, ev_mk, ev_blt, ev_isi, evs_nil, evs_cons, evT_nil, evT_one, evI_lst, evI_r1, evI_r2, evI_down, evI_enum, evI_zip, binG_i, binG_l, cmpG_i, cmpG_n, cmpG_tt, cmpG_ll, len_l, len_t, int_i, int_b, tuple_l, tuple_t, list_l, list_t, binD, cmpD, unD, isiD, kdD, isK, truD, test, kept, keptS, keptI, peek, peekS, frzL, frzAt_nil, frzAt_z, frzAt_n, frzAt_s, frz_int, frz_bl, frz_non, frz_tup, frz_objn, frz_ro, frz_own, frz_fz', List.getElem?_cons_zero, List.getElem?_cons_succ, List.nil_append, List.cons_append, Option.map_some, Option.map_none, Option.bind_some, List.set_cons_zero, List.set_cons_succ, List.set_nil, fz_int, fz_bl, fz_non, fz_tup, fz_lf, fz_lr, fz_lo, fz_on, D.scal, D.isN, Bool.and_true, Bool.true_and, Bool.and_self, Bool.not_true, Bool.not_false, if_true, if_false, Bool.false_eq_true, reduceIte, reduceCtorEq, seqD_l, seqD_t, frzS_ints, fzs_ints, List.length_map, Int.reduceLT, Int.reduceLE, Int.reduceNeg, Int.reduceToNat, Int.reduceAdd, Int.reduceSub, Int.reduceMul, Int.reducePow, decide_true, decide_false, Bool.or_true, Bool.true_or, Bool.or_false, Bool.false_or, Bool.false_and, Bool.and_false, ev_keep, roots, nD_frz]
        · exact evO (evAt (evSl rfl) (evSl rfl) la) (evS (evSl rfl) (by omega))
        · exact evSl rfl
        · refine runs_nx (run1_sub (ρ1 := [some (nD n), some (.tup (ls.map lineD)), some (.lst .own ((ms.set a (ms.getD a 0 ||| 2 ^ b)).map nD)), some (nD a), some (nD b), none]) (d := nD ((ms.set a (ms.getD a 0 ||| 2 ^ b)).getD b 0 ||| 2 ^ a)) (j := (b : Int)) (f := true) (ds := (ms.set a (ms.getD a 0 ||| 2 ^ b)).map nD) ?_ ?_ ?_ rfl (fzs_n _) rfl (by omega) (by rw [List.length_map]; omega)) ?_
          · simp only [ev_slot, ev_con, ev_bin, ev_un, ev_cmp, ev_chain, ev_and, ev_or, ev_not, ev_ite, ev_idx, ev_sl, ev_fld, ev_tup, ev_lst, ev_call, ev_mk, ev_blt, ev_isi, evs_nil, evs_cons, evT_nil, evT_one, evI_lst, evI_r1, evI_r2, evI_down, evI_enum, evI_zip, binG_i, binG_l, cmpG_i, cmpG_n, cmpG_tt, cmpG_ll, len_l, len_t, int_i, int_b, tuple_l, tuple_t, list_l, list_t, binD, cmpD, unD, isiD, kdD, isK, truD, test, kept, keptS, keptI, peek, peekS, frzL, frzAt_nil, frzAt_z, frzAt_n, frzAt_s, frz_int, frz_bl, frz_non, frz_tup, frz_objn, frz_ro, frz_own, frz_fz', List.getElem?_cons_zero, List.getElem?_cons_succ, List.nil_append, List.cons_append, Option.map_some, Option.map_none, Option.bind_some, List.set_cons_zero, List.set_cons_succ, List.set_nil, fz_int, fz_bl, fz_non, fz_tup, fz_lf, fz_lr, fz_lo, fz_on, D.scal, D.isN, Bool.and_true, Bool.true_and, Bool.and_self, Bool.not_true, Bool.not_false, if_true, if_false, Bool.false_eq_true, reduceIte, reduceCtorEq, seqD_l, seqD_t, frzS_ints, fzs_ints, List.length_map, Int.reduceLT, Int.reduceLE, Int.reduceNeg, Int.reduceToNat, Int.reduceAdd, Int.reduceSub, Int.reduceMul, Int.reducePow, decide_true, decide_false, Bool.or_true, Bool.true_or, Bool.or_false, Bool.false_or, Bool.false_and, Bool.and_false, ev_keep, roots, nD_frz, Int.toNat_natCast, List.map_set]
          · exact evO (evAt (evSl rfl) (evSl rfl) lb) (evS (evSl rfl) (by omega))
          · exact evSl rfl
          · rw [runs_nil]
            simp only [ev_slot, ev_con, ev_bin, ev_un, ev_cmp, ev_chain, ev_and, ev_or, ev_not, ev_ite, ev_idx, ev_sl, ev_fld, ev_tup, ev_lst, ev_call, ev_mk, ev_blt, ev_isi, evs_nil, evs_cons, evT_nil, evT_one, evI_lst, evI_r1, evI_r2, evI_down, evI_enum, evI_zip, binG_i, binG_l, cmpG_i, cmpG_n, cmpG_tt, cmpG_ll, len_l, len_t, int_i, int_b, tuple_l, tuple_t, list_l, list_t, binD, cmpD, unD, isiD, kdD, isK, truD, test, kept, keptS, keptI, peek, peekS, frzL, frzAt_nil, frzAt_z, frzAt_n, frzAt_s, frz_int, frz_bl, frz_non, frz_tup, frz_objn, frz_ro, frz_own, frz_fz', List.getElem?_cons_zero, List.getElem?_cons_succ, List.nil_append, List.cons_append, Option.map_some, Option.map_none, Option.bind_some, List.set_cons_zero, List.set_cons_succ, List.set_nil, fz_int, fz_bl, fz_non, fz_tup, fz_lf, fz_lr, fz_lo, fz_on, D.scal, D.isN, Bool.and_true, Bool.true_and, Bool.and_self, Bool.not_true, Bool.not_false, if_true, if_false, Bool.false_eq_true, reduceIte, reduceCtorEq, seqD_l, seqD_t, frzS_ints, fzs_ints, List.length_map, Int.reduceLT, Int.reduceLE, Int.reduceNeg, Int.reduceToNat, Int.reduceAdd, Int.reduceSub, Int.reduceMul, Int.reducePow, decide_true, decide_false, Bool.or_true, Bool.true_or, Bool.or_false, Bool.false_or, Bool.false_and, Bool.and_false, ev_keep, roots, Int.toNat_natCast, List.map_set]
      · intro x y
        rw [getD_set _ _ _ _ lb, getD_set _ _ _ _ la, getD_set _ _ _ _ la, take_succ' hp]
        have key : ∀ z w : Nat, (2 ^ z).testBit w = decide (z = w) := fun z w => Nat.testBit_two_pow
        constructor
        · intro h
          split at h
          · rename_i e
            subst e
            rw [Nat.testBit_or, key, Bool.or_eq_true, decide_eq_true_eq] at h
            rcases h with h | h
            · split at h
              · rename_i e2
                subst e2
                rw [Nat.testBit_or, key, Bool.or_eq_true, decide_eq_true_eq] at h
                rcases h with h | h
                · obtain ⟨p, h4, h5⟩ := (h3 x y).mp h
                  exact ⟨p, List.mem_append_left _ h4, h5⟩
                · exact ⟨_, List.mem_append_right _ (List.mem_singleton.mpr rfl), .inl ⟨rfl, h⟩⟩
              · obtain ⟨p, h4, h5⟩ := (h3 x y).mp h
                exact ⟨p, List.mem_append_left _ h4, h5⟩
            · exact ⟨_, List.mem_append_right _ (List.mem_singleton.mpr rfl), .inr ⟨h, rfl⟩⟩
          · split at h
            · rename_i e
              subst e
              rw [Nat.testBit_or, key, Bool.or_eq_true, decide_eq_true_eq] at h
              rcases h with h | h
              · obtain ⟨p, h4, h5⟩ := (h3 x y).mp h
                exact ⟨p, List.mem_append_left _ h4, h5⟩
              · exact ⟨_, List.mem_append_right _ (List.mem_singleton.mpr rfl), .inl ⟨rfl, h⟩⟩
            · obtain ⟨p, h4, h5⟩ := (h3 x y).mp h
              exact ⟨p, List.mem_append_left _ h4, h5⟩
        · rintro ⟨p, h4, h5⟩
          have old : p ∈ ls.take i → (ms.getD x 0).testBit y = true := fun h6 => (h3 x y).mpr ⟨p, h6, h5⟩
          rcases List.mem_append.mp h4 with h4 | h4
          · have o := old h4
            split
            · rename_i e; subst e
              split
              · rename_i e2; subst e2
                simp only [Nat.testBit_or, o, Bool.true_or]
              · simp only [Nat.testBit_or, o, Bool.true_or]
            · split
              · rename_i e; subst e
                simp only [Nat.testBit_or, o, Bool.true_or]
              · exact o
          · rw [List.mem_singleton.mp h4] at h5
            dsimp only at h5
            rcases h5 with ⟨rfl, rfl⟩ | ⟨rfl, rfl⟩
            · by_cases e : a = b
              · subst e
                simp [Nat.testBit_or, key]
              · simp [e, Nat.testBit_or, key]
            · simp [Nat.testBit_or, key])
  refine ⟨ms, runD_rt rfl ?_, h2, fun a b => by rw [h3 a b, List.length_map, List.take_length]⟩
  show runs G b1 [some (nD n), some (.tup (ls.map lineD)), none, none, none, none] = _
  unfold b1
  refine runs_nx (run1_asg (ρ1 := [some (nD n), some (.tup (ls.map lineD)), none, none, none, none]) (by simp only [ev_slot, ev_con, ev_bin, ev_un, ev_cmp, ev_chain, ev_and, ev_or, ev_not, ev_ite, ev_idx, ev_sl, ev_fld, ev_tup, ev_lst, ev_call, ev_mk, ev_blt, ev_isi, evs_nil, evs_cons, evT_nil, evT_one, evI_lst, evI_r1, evI_r2, evI_down, evI_enum, evI_zip, binG_i, binG_l, cmpG_i, cmpG_n, cmpG_tt, cmpG_ll, len_l, len_t, int_i, int_b, tuple_l, tuple_t, list_l, list_t, binD, cmpD, unD, isiD, kdD, isK, truD, test, kept, keptS, keptI, peek, peekS, frzL, frzAt_nil, frzAt_z, frzAt_n, frzAt_s, frz_int, frz_bl, frz_non, frz_tup, frz_objn, frz_ro, frz_own, frz_fz', List.getElem?_cons_zero, List.getElem?_cons_succ, List.nil_append, List.cons_append, Option.map_some, Option.map_none, Option.bind_some, List.set_cons_zero, List.set_cons_succ, List.set_nil, fz_int, fz_bl, fz_non, fz_tup, fz_lf, fz_lr, fz_lo, fz_on, D.scal, D.isN, Bool.and_true, Bool.true_and, Bool.and_self, Bool.not_true, Bool.not_false, if_true, if_false, Bool.false_eq_true, reduceIte, reduceCtorEq, seqD_l, seqD_t, frzS_ints, fzs_ints, List.length_map, Int.reduceLT, Int.reduceLE, Int.reduceNeg, Int.reduceToNat, Int.reduceAdd, Int.reduceSub, Int.reduceMul, Int.reducePow, decide_true, decide_false, Bool.or_true, Bool.true_or, Bool.or_false, Bool.false_or, Bool.false_and, Bool.and_false, ev_keep, roots, nD_frz]) (d := .lst .own ((List.replicate n 0).map nD)) ?_ rfl) (runs_nx (run1_for (ρ1 := [some (nD n), some (.tup (ls.map lineD)), some (.lst .own ((List.replicate n 0).map nD)), none, none, none]) (by simp only [ev_slot, ev_con, ev_bin, ev_un, ev_cmp, ev_chain, ev_and, ev_or, ev_not, ev_ite, ev_idx, ev_sl, ev_fld, ev_tup, ev_lst, ev_call, ev_mk, ev_blt, ev_isi, evs_nil, evs_cons, evT_nil, evT_one, evI_lst, evI_r1, evI_r2, evI_down, evI_enum, evI_zip, binG_i, binG_l, cmpG_i, cmpG_n, cmpG_tt, cmpG_ll, len_l, len_t, int_i, int_b, tuple_l, tuple_t, list_l, list_t, binD, cmpD, unD, isiD, kdD, isK, truD, test, kept, keptS, keptI, peek, peekS, frzL, frzAt_nil, frzAt_z, frzAt_n, frzAt_s, frz_int, frz_bl, frz_non, frz_tup, frz_objn, frz_ro, frz_own, frz_fz', List.getElem?_cons_zero, List.getElem?_cons_succ, List.nil_append, List.cons_append, Option.map_some, Option.map_none, Option.bind_some, List.set_cons_zero, List.set_cons_succ, List.set_nil, fz_int, fz_bl, fz_non, fz_tup, fz_lf, fz_lr, fz_lo, fz_on, D.scal, D.isN, Bool.and_true, Bool.true_and, Bool.and_self, Bool.not_true, Bool.not_false, if_true, if_false, Bool.false_eq_true, reduceIte, reduceCtorEq, seqD_l, seqD_t, frzS_ints, fzs_ints, List.length_map, Int.reduceLT, Int.reduceLE, Int.reduceNeg, Int.reduceToNat, Int.reduceAdd, Int.reduceSub, Int.reduceMul, Int.reducePow, decide_true, decide_false, Bool.or_true, Bool.true_or, Bool.or_false, Bool.false_or, Bool.false_and, Bool.and_false, ev_keep, roots]) (items := ls.map lineD) (by simp only [ev_slot, ev_con, ev_bin, ev_un, ev_cmp, ev_chain, ev_and, ev_or, ev_not, ev_ite, ev_idx, ev_sl, ev_fld, ev_tup, ev_lst, ev_call, ev_mk, ev_blt, ev_isi, evs_nil, evs_cons, evT_nil, evT_one, evI_lst, evI_r1, evI_r2, evI_down, evI_enum, evI_zip, binG_i, binG_l, cmpG_i, cmpG_n, cmpG_tt, cmpG_ll, len_l, len_t, int_i, int_b, tuple_l, tuple_t, list_l, list_t, binD, cmpD, unD, isiD, kdD, isK, truD, test, kept, keptS, keptI, peek, peekS, frzL, frzAt_nil, frzAt_z, frzAt_n, frzAt_s, frz_int, frz_bl, frz_non, frz_tup, frz_objn, frz_ro, frz_own, frz_fz', List.getElem?_cons_zero, List.getElem?_cons_succ, List.nil_append, List.cons_append, Option.map_some, Option.map_none, Option.bind_some, List.set_cons_zero, List.set_cons_succ, List.set_nil, fz_int, fz_bl, fz_non, fz_tup, fz_lf, fz_lr, fz_lo, fz_on, D.scal, D.isN, Bool.and_true, Bool.true_and, Bool.and_self, Bool.not_true, Bool.not_false, if_true, if_false, Bool.false_eq_true, reduceIte, reduceCtorEq, seqD_l, seqD_t, frzS_ints, fzs_ints, List.length_map, Int.reduceLT, Int.reduceLE, Int.reduceNeg, Int.reduceToNat, Int.reduceAdd, Int.reduceSub, Int.reduceMul, Int.reducePow, decide_true, decide_false, Bool.or_true, Bool.true_or, Bool.or_false, Bool.false_or, Bool.false_and, Bool.and_false, ev_keep, roots]) (by rw [← hbd]; exact h1)) (runs_rt (run1_ret (ρ1 := [some (nD n), some (.tup (ls.map lineD)), some (.lst .own (ms.map nD)), v3, v4, none]) (by simp only [ev_slot, ev_con, ev_bin, ev_un, ev_cmp, ev_chain, ev_and, ev_or, ev_not, ev_ite, ev_idx, ev_sl, ev_fld, ev_tup, ev_lst, ev_call, ev_mk, ev_blt, ev_isi, evs_nil, evs_cons, evT_nil, evT_one, evI_lst, evI_r1, evI_r2, evI_down, evI_enum, evI_zip, binG_i, binG_l, cmpG_i, cmpG_n, cmpG_tt, cmpG_ll, len_l, len_t, int_i, int_b, tuple_l, tuple_t, list_l, list_t, binD, cmpD, unD, isiD, kdD, isK, truD, test, kept, keptS, keptI, peek, peekS, frzL, frzAt_nil, frzAt_z, frzAt_n, frzAt_s, frz_int, frz_bl, frz_non, frz_tup, frz_objn, frz_ro, frz_own, frz_fz', List.getElem?_cons_zero, List.getElem?_cons_succ, List.nil_append, List.cons_append, Option.map_some, Option.map_none, Option.bind_some, List.set_cons_zero, List.set_cons_succ, List.set_nil, fz_int, fz_bl, fz_non, fz_tup, fz_lf, fz_lr, fz_lo, fz_on, D.scal, D.isN, Bool.and_true, Bool.true_and, Bool.and_self, Bool.not_true, Bool.not_false, if_true, if_false, Bool.false_eq_true, reduceIte, reduceCtorEq, seqD_l, seqD_t, frzS_ints, fzs_ints, List.length_map, Int.reduceLT, Int.reduceLE, Int.reduceNeg, Int.reduceToNat, Int.reduceAdd, Int.reduceSub, Int.reduceMul, Int.reducePow, decide_true, decide_false, Bool.or_true, Bool.true_or, Bool.or_false, Bool.false_or, Bool.false_and, Bool.and_false, ev_keep, roots]) ?_)))
  · refine ev_lc (items := rngD 0 n) (evI1 (j := (n : Int)) (evSl rfl) (by omega) (by omega)) (by rw [rngD_len]; omega) ?_
    rw [rngD_map, show (List.replicate n 0).map nD = (List.range n).map fun _ => nD 0 by rw [List.map_replicate, List.map_const', List.length_range]]
    exact compD_all _ _ fun k _ => lcF_yes (ρ' := [some (nD n), some (.tup (ls.map lineD)), none, none, none, some (.int (0 + (k : Int)))]) rfl evT_nil (evCon rfl)
  · simp only [ev_slot, ev_con, ev_bin, ev_un, ev_cmp, ev_chain, ev_and, ev_or, ev_not, ev_ite, ev_idx, ev_sl, ev_fld, ev_tup, ev_lst, ev_call, ev_mk, ev_blt, ev_isi, evs_nil, evs_cons, evT_nil, evT_one, evI_lst, evI_r1, evI_r2, evI_down, evI_enum, evI_zip, binG_i, binG_l, cmpG_i, cmpG_n, cmpG_tt, cmpG_ll, len_l, len_t, int_i, int_b, tuple_l, tuple_t, list_l, list_t, binD, cmpD, unD, isiD, kdD, isK, truD, test, kept, keptS, keptI, peek, peekS, frzL, frzAt_nil, frzAt_z, frzAt_n, frzAt_s, frz_int, frz_bl, frz_non, frz_tup, frz_objn, frz_ro, frz_own, frz_fz', List.getElem?_cons_zero, List.getElem?_cons_succ, List.nil_append, List.cons_append, Option.map_some, Option.map_none, Option.bind_some, List.set_cons_zero, List.set_cons_succ, List.set_nil, fz_int, fz_bl, fz_non, fz_tup, fz_lf, fz_lr, fz_lo, fz_on, D.scal, D.isN, Bool.and_true, Bool.true_and, Bool.and_self, Bool.not_true, Bool.not_false, if_true, if_false, Bool.false_eq_true, reduceIte, reduceCtorEq, seqD_l, seqD_t, frzS_ints, fzs_ints, List.length_map, Int.reduceLT, Int.reduceLE, Int.reduceNeg, Int.reduceToNat, Int.reduceAdd, Int.reduceSub, Int.reduceMul, Int.reducePow, decide_true, decide_false, Bool.or_true, Bool.true_or, Bool.or_false, Bool.false_or, Bool.false_and, Bool.and_false, ev_keep, roots, fzs_n]
    rfl
end
end P5

/-! M5d: spread. -/
namespace P5
open PySem L2 Z Bt
section
variable {G : Gd} {ρ : Rho}
/-- what a call of places_of gives -/
def Places (G : Gd) : Prop := ∀ (m B : Nat), m < 2 ^ B → B ≤ 900 → ∃ l : List Nat, G.call 0 [.int (m : Int)] = some (nsD l) ∧ l.Pairwise (· < ·) ∧ ∀ i, i ∈ l ↔ m.testBit i = true
/-- spread -/
theorem spread_ok (hp : Places G) {ms : List Nat} {m : Nat} (hm : m < 2 ^ ms.length) (hl : ms.length ≤ 900) : ∃ r : Nat, runD G f2 [nsD ms, nD m] = some (nD r) ∧ ∀ b, r.testBit b = true ↔ ∃ p, m.testBit p = true ∧ (ms.getD p 0).testBit b = true := by
  obtain ⟨l, h0, _, h1⟩ := hp m _ hm hl
  have hlt : ∀ p ∈ l, p < ms.length := fun p h => by
    rcases Nat.lt_or_ge p ms.length with c | c
    · exact c
    · have := (h1 p).mp h
      rw [Nat.testBit_lt_two_pow (Nat.lt_of_lt_of_le hm (Nat.pow_le_pow_right (by decide) c))] at this
      cases this
  obtain ⟨bd, hbd⟩ : ∃ x : Ss, x = .cons (.asg (.name 2) (.bin .BitOr (.slot 2) (.idx (.slot 0) (.slot 3)))) (.nil) := ⟨_, rfl⟩
  obtain ⟨ρ', h2, r, v3, rfl, h3⟩ := for_inv (bd := bindT (.name 3)) (body := runs G bd) (items := l.map nD) (ρ := [some (nsD ms), some (nD m), some (nD 0), none])
    (fun i ρ => ∃ (r : Nat) (v3 : Option D), ρ = [some (nsD ms), some (nD m), some (nD r), v3] ∧ ∀ b, r.testBit b = true ↔ ∃ p ∈ l.take i, (ms.getD p 0).testBit b = true) ⟨0, none, rfl, fun b => by simp⟩ (by
      rintro i d ρ hi ⟨r, v3, rfl, h3⟩
      rw [List.getElem?_map] at hi
      obtain ⟨p, hp, rfl⟩ := Option.map_eq_some_iff.mp hi
      subst hbd
      refine ⟨[some (nsD ms), some (nD m), some (nD r), some (nD p)], [some (nsD ms), some (nD m), some (nD (r ||| ms.getD p 0)), some (nD p)], rfl, .inl ?_, _, _, rfl, fun b => ?_⟩
      · refine runs_nx (run1_asg (ρ1 := [some (nsD ms), some (nD m), some (nD r), some (nD p)]) (by simp only [ev_slot, ev_con, ev_bin, ev_un, ev_cmp, ev_chain, ev_and, ev_or, ev_not, ev_ite, ev_idx, ev_sl, ev_fld, ev_tup, ev_lst, ev_call, ev_mk, ev_blt, ev_isi, evs_nil, evs_cons, evT_nil, evT_one, evI_lst, evI_r1, evI_r2, evI_down, evI_enum, evI_zip, binG_i, binG_l, cmpG_i, cmpG_n, cmpG_tt, cmpG_ll, len_l, len_t, int_i, int_b, tuple_l, tuple_t, list_l, list_t, binD, cmpD, unD, isiD, kdD, isK, truD, test, kept, keptS, keptI, peek, peekS, frzL, frzAt_nil, frzAt_z, frzAt_n, frzAt_s, frz_int, frz_bl, frz_non, frz_tup, frz_objn, frz_ro, frz_own, frz_fz', List.getElem?_cons_zero, List.getElem?_cons_succ, List.nil_append, List.cons_append, Option.map_some, Option.map_none, Option.bind_some, List.set_cons_zero, List.set_cons_succ, List.set_nil, fz_int, fz_bl, fz_non, fz_tup, fz_lf, fz_lr, fz_lo, fz_on, D.scal, D.isN, Bool.and_true, Bool.true_and, Bool.and_self, Bool.not_true, Bool.not_false, if_true, if_false, Bool.false_eq_true, reduceIte, reduceCtorEq, seqD_l, seqD_t, frzS_ints, fzs_ints, List.length_map, Int.reduceLT, Int.reduceLE, Int.reduceNeg, Int.reduceToNat, Int.reduceAdd, Int.reduceSub, Int.reduceMul, Int.reducePow, decide_true, decide_false, Bool.or_true, Bool.true_or, Bool.or_false, Bool.false_or, Bool.false_and, Bool.and_false, ev_keep, roots]) (d := nD (r ||| ms.getD p 0)) (evO (evSl rfl) (evAtT (evSl rfl) (evSl rfl) (hlt p (List.mem_of_getElem? hp)))) rfl) runs_nil
      · rw [Nat.testBit_or, Bool.or_eq_true, h3, take_succ' hp]
        constructor
        · rintro (⟨q, hq, h⟩ | h)
          · exact ⟨q, List.mem_append_left _ hq, h⟩
          · exact ⟨p, List.mem_append_right _ (List.mem_singleton.mpr rfl), h⟩
        · rintro ⟨q, hq, h⟩
          rcases List.mem_append.mp hq with hq | hq
          · exact .inl ⟨q, hq, h⟩
          · rw [List.mem_singleton.mp hq] at h
            exact .inr h)
  refine ⟨r, runD_rt rfl ?_, fun b => ?_⟩
  · show runs G b2 [some (nsD ms), some (nD m), none, none] = _
    unfold b2
    refine runs_nx (run1_asg (ρ1 := [some (nsD ms), some (nD m), none, none]) (by simp only [ev_slot, ev_con, ev_bin, ev_un, ev_cmp, ev_chain, ev_and, ev_or, ev_not, ev_ite, ev_idx, ev_sl, ev_fld, ev_tup, ev_lst, ev_call, ev_mk, ev_blt, ev_isi, evs_nil, evs_cons, evT_nil, evT_one, evI_lst, evI_r1, evI_r2, evI_down, evI_enum, evI_zip, binG_i, binG_l, cmpG_i, cmpG_n, cmpG_tt, cmpG_ll, len_l, len_t, int_i, int_b, tuple_l, tuple_t, list_l, list_t, binD, cmpD, unD, isiD, kdD, isK, truD, test, kept, keptS, keptI, peek, peekS, frzL, frzAt_nil, frzAt_z, frzAt_n, frzAt_s, frz_int, frz_bl, frz_non, frz_tup, frz_objn, frz_ro, frz_own, frz_fz', List.getElem?_cons_zero, List.getElem?_cons_succ, List.nil_append, List.cons_append, Option.map_some, Option.map_none, Option.bind_some, List.set_cons_zero, List.set_cons_succ, List.set_nil, fz_int, fz_bl, fz_non, fz_tup, fz_lf, fz_lr, fz_lo, fz_on, D.scal, D.isN, Bool.and_true, Bool.true_and, Bool.and_self, Bool.not_true, Bool.not_false, if_true, if_false, Bool.false_eq_true, reduceIte, reduceCtorEq, seqD_l, seqD_t, frzS_ints, fzs_ints, List.length_map, Int.reduceLT, Int.reduceLE, Int.reduceNeg, Int.reduceToNat, Int.reduceAdd, Int.reduceSub, Int.reduceMul, Int.reducePow, decide_true, decide_false, Bool.or_true, Bool.true_or, Bool.or_false, Bool.false_or, Bool.false_and, Bool.and_false, ev_keep, roots]) (d := nD 0) (by simp only [ev_slot, ev_con, ev_bin, ev_un, ev_cmp, ev_chain, ev_and, ev_or, ev_not, ev_ite, ev_idx, ev_sl, ev_fld, ev_tup, ev_lst, ev_call, ev_mk, ev_blt, ev_isi, evs_nil, evs_cons, evT_nil, evT_one, evI_lst, evI_r1, evI_r2, evI_down, evI_enum, evI_zip, binG_i, binG_l, cmpG_i, cmpG_n, cmpG_tt, cmpG_ll, len_l, len_t, int_i, int_b, tuple_l, tuple_t, list_l, list_t, binD, cmpD, unD, isiD, kdD, isK, truD, test, kept, keptS, keptI, peek, peekS, frzL, frzAt_nil, frzAt_z, frzAt_n, frzAt_s, frz_int, frz_bl, frz_non, frz_tup, frz_objn, frz_ro, frz_own, frz_fz', List.getElem?_cons_zero, List.getElem?_cons_succ, List.nil_append, List.cons_append, Option.map_some, Option.map_none, Option.bind_some, List.set_cons_zero, List.set_cons_succ, List.set_nil, fz_int, fz_bl, fz_non, fz_tup, fz_lf, fz_lr, fz_lo, fz_on, D.scal, D.isN, Bool.and_true, Bool.true_and, Bool.and_self, Bool.not_true, Bool.not_false, if_true, if_false, Bool.false_eq_true, reduceIte, reduceCtorEq, seqD_l, seqD_t, frzS_ints, fzs_ints, List.length_map, Int.reduceLT, Int.reduceLE, Int.reduceNeg, Int.reduceToNat, Int.reduceAdd, Int.reduceSub, Int.reduceMul, Int.reducePow, decide_true, decide_false, Bool.or_true, Bool.true_or, Bool.or_false, Bool.false_or, Bool.false_and, Bool.and_false, ev_keep, roots]; rfl) rfl) (runs_nx (run1_for (ρ1 := [some (nsD ms), some (nD m), some (nD 0), none]) ?_ (items := l.map nD) ?_ (by rw [← hbd]; exact h2)) (runs_rt (run1_ret (ρ1 := [some (nsD ms), some (nD m), some (nD r), v3]) (by simp only [ev_slot, ev_con, ev_bin, ev_un, ev_cmp, ev_chain, ev_and, ev_or, ev_not, ev_ite, ev_idx, ev_sl, ev_fld, ev_tup, ev_lst, ev_call, ev_mk, ev_blt, ev_isi, evs_nil, evs_cons, evT_nil, evT_one, evI_lst, evI_r1, evI_r2, evI_down, evI_enum, evI_zip, binG_i, binG_l, cmpG_i, cmpG_n, cmpG_tt, cmpG_ll, len_l, len_t, int_i, int_b, tuple_l, tuple_t, list_l, list_t, binD, cmpD, unD, isiD, kdD, isK, truD, test, kept, keptS, keptI, peek, peekS, frzL, frzAt_nil, frzAt_z, frzAt_n, frzAt_s, frz_int, frz_bl, frz_non, frz_tup, frz_objn, frz_ro, frz_own, frz_fz', List.getElem?_cons_zero, List.getElem?_cons_succ, List.nil_append, List.cons_append, Option.map_some, Option.map_none, Option.bind_some, List.set_cons_zero, List.set_cons_succ, List.set_nil, fz_int, fz_bl, fz_non, fz_tup, fz_lf, fz_lr, fz_lo, fz_on, D.scal, D.isN, Bool.and_true, Bool.true_and, Bool.and_self, Bool.not_true, Bool.not_false, if_true, if_false, Bool.false_eq_true, reduceIte, reduceCtorEq, seqD_l, seqD_t, frzS_ints, fzs_ints, List.length_map, Int.reduceLT, Int.reduceLE, Int.reduceNeg, Int.reduceToNat, Int.reduceAdd, Int.reduceSub, Int.reduceMul, Int.reducePow, decide_true, decide_false, Bool.or_true, Bool.true_or, Bool.or_false, Bool.false_or, Bool.false_and, Bool.and_false, ev_keep, roots, nD_frz]) (evSl rfl))))
    · simp only [ev_slot, ev_con, ev_bin, ev_un, ev_cmp, ev_chain, ev_and, ev_or, ev_not, ev_ite, ev_idx, ev_sl, ev_fld, ev_tup, ev_lst, ev_call, ev_mk, ev_blt, ev_isi, evs_nil, evs_cons, evT_nil, evT_one, evI_lst, evI_r1, evI_r2, evI_down, evI_enum, evI_zip, binG_i, binG_l, cmpG_i, cmpG_n, cmpG_tt, cmpG_ll, len_l, len_t, int_i, int_b, tuple_l, tuple_t, list_l, list_t, binD, cmpD, unD, isiD, kdD, isK, truD, test, kept, keptS, keptI, peek, peekS, frzL, frzAt_nil, frzAt_z, frzAt_n, frzAt_s, frz_int, frz_bl, frz_non, frz_tup, frz_objn, frz_ro, frz_own, frz_fz', List.getElem?_cons_zero, List.getElem?_cons_succ, List.nil_append, List.cons_append, Option.map_some, Option.map_none, Option.bind_some, List.set_cons_zero, List.set_cons_succ, List.set_nil, fz_int, fz_bl, fz_non, fz_tup, fz_lf, fz_lr, fz_lo, fz_on, D.scal, D.isN, Bool.and_true, Bool.true_and, Bool.and_self, Bool.not_true, Bool.not_false, if_true, if_false, Bool.false_eq_true, reduceIte, reduceCtorEq, seqD_l, seqD_t, frzS_ints, fzs_ints, List.length_map, Int.reduceLT, Int.reduceLE, Int.reduceNeg, Int.reduceToNat, Int.reduceAdd, Int.reduceSub, Int.reduceMul, Int.reducePow, decide_true, decide_false, Bool.or_true, Bool.true_or, Bool.or_false, Bool.false_or, Bool.false_and, Bool.and_false, ev_keep, roots, nD_frz]
    · unfold nD at *
      simp only [ev_slot, ev_con, ev_bin, ev_un, ev_cmp, ev_chain, ev_and, ev_or, ev_not, ev_ite, ev_idx, ev_sl, ev_fld, ev_tup, ev_lst, ev_call, ev_mk, ev_blt, ev_isi, evs_nil, evs_cons, evT_nil, evT_one, evI_lst, evI_r1, evI_r2, evI_down, evI_enum, evI_zip, binG_i, binG_l, cmpG_i, cmpG_n, cmpG_tt, cmpG_ll, len_l, len_t, int_i, int_b, tuple_l, tuple_t, list_l, list_t, binD, cmpD, unD, isiD, kdD, isK, truD, test, kept, keptS, keptI, peek, peekS, frzL, frzAt_nil, frzAt_z, frzAt_n, frzAt_s, frz_int, frz_bl, frz_non, frz_tup, frz_objn, frz_ro, frz_own, frz_fz', List.getElem?_cons_zero, List.getElem?_cons_succ, List.nil_append, List.cons_append, Option.map_some, Option.map_none, Option.bind_some, List.set_cons_zero, List.set_cons_succ, List.set_nil, fz_int, fz_bl, fz_non, fz_tup, fz_lf, fz_lr, fz_lo, fz_on, D.scal, D.isN, Bool.and_true, Bool.true_and, Bool.and_self, Bool.not_true, Bool.not_false, if_true, if_false, Bool.false_eq_true, reduceIte, reduceCtorEq, seqD_l, seqD_t, frzS_ints, fzs_ints, List.length_map, Int.reduceLT, Int.reduceLE, Int.reduceNeg, Int.reduceToNat, Int.reduceAdd, Int.reduceSub, Int.reduceMul, Int.reducePow, decide_true, decide_false, Bool.or_true, Bool.true_or, Bool.or_false, Bool.false_or, Bool.false_and, Bool.and_false, ev_keep, roots, frzS_cons', frzS_nil', List.all_nil, h0]
      rfl
  · rw [h3, List.length_map, List.take_length]
    exact ⟨fun ⟨p, hp, h⟩ => ⟨p, (h1 p).mp hp, h⟩, fun ⟨p, hp, h⟩ => ⟨p, (h1 p).mpr hp, h⟩⟩
/-- poked_mask -/
theorem poked_ok {n : Nat} (hn : n ≤ 1000) {ls : List (Nat × Nat)} {ms : List Nat} {nr : List (List Nat)} {P : D} {is : List Int} (hP : frz P = P) (hf : P.fz = true) (hs : seqD P = some (is.map D.int)) :
    ∃ r : Nat, runD G f11 [webD n ls ms nr, P] = some (nD r) ∧ ∀ b, r.testBit b = true ↔ b < n ∧ (b : Int) ∈ is := by
  obtain ⟨bd, hbd⟩ : ∃ x : Ss, x = .cons (.ite (.chain .LtE .Lt (.con (.int 0)) (.slot 3) (.fld (.slot 0) 0)) (.cons (.asg (.name 2) (.bin .BitOr (.slot 2) (.bin .LShift (.con (.int 1)) (.slot 3)))) (.nil)) (.nil)) (.nil) := ⟨_, rfl⟩
  generalize hW : webD n ls ms nr = W
  have fW : frz W = W := by rw [← hW]; rfl
  have zW : ∀ rest, ev G (.fld (.slot 0) 0) (some W :: rest) = some (nD n, true) := fun rest => by rw [ev_fld, ev_slot, ← hW]; rfl
  obtain ⟨ρ', h2, r, v3, rfl, h3⟩ := for_inv (bd := bindT (.name 3)) (body := runs G bd) (items := is.map D.int) (ρ := [some W, some P, some (nD 0), none])
    (fun i ρ => ∃ (r : Nat) (v3 : Option D), ρ = [some W, some P, some (nD r), v3] ∧ ∀ b, r.testBit b = true ↔ b < n ∧ (b : Int) ∈ is.take i) ⟨0, none, rfl, fun b => by simp⟩ (by
      rintro i d ρ hi ⟨r, v3, rfl, h3⟩
      rw [List.getElem?_map] at hi
      obtain ⟨p, hp, rfl⟩ := Option.map_eq_some_iff.mp hi
      subst hbd
      have ht : test G (.chain .LtE .Lt (.con (.int 0)) (.slot 3) (.fld (.slot 0) 0)) [some W, some P, some (nD r), some (.int p)] = some (decide (0 ≤ p) && decide (p < (n : Int))) := by
        exact test_of (evCh (x := 0) (by rw [ev_con]; rfl) (evSl rfl) (zW _))
      by_cases c : 0 ≤ p ∧ p < (n : Int)
      · obtain ⟨k, rfl⟩ : ∃ k : Nat, p = (k : Int) := ⟨p.toNat, by omega⟩
        have hk : k < n := by omega
        refine ⟨[some W, some P, some (nD r), some (nD k)], [some W, some P, some (nD (r ||| 2 ^ k)), some (nD k)], rfl, .inl ?_, _, _, rfl, fun b => ?_⟩
        · refine runs_if true (ρ1 := [some W, some P, some (nD r), some (nD k)]) (by simp only [ev_slot, ev_con, ev_bin, ev_un, ev_cmp, ev_chain, ev_and, ev_or, ev_not, ev_ite, ev_idx, ev_sl, ev_fld, ev_tup, ev_lst, ev_call, ev_mk, ev_blt, ev_isi, evs_nil, evs_cons, evT_nil, evT_one, evI_lst, evI_r1, evI_r2, evI_down, evI_enum, evI_zip, binG_i, binG_l, cmpG_i, cmpG_n, cmpG_tt, cmpG_ll, len_l, len_t, int_i, int_b, tuple_l, tuple_t, list_l, list_t, binD, cmpD, unD, isiD, kdD, isK, truD, test, kept, keptS, keptI, peek, peekS, frzL, frzAt_nil, frzAt_z, frzAt_n, frzAt_s, frz_int, frz_bl, frz_non, frz_tup, frz_objn, frz_ro, frz_own, frz_fz', List.getElem?_cons_zero, List.getElem?_cons_succ, List.nil_append, List.cons_append, Option.map_some, Option.map_none, Option.bind_some, List.set_cons_zero, List.set_cons_succ, List.set_nil, fz_int, fz_bl, fz_non, fz_tup, fz_lf, fz_lr, fz_lo, fz_on, D.scal, D.isN, Bool.and_true, Bool.true_and, Bool.and_self, Bool.not_true, Bool.not_false, if_true, if_false, Bool.false_eq_true, reduceIte, reduceCtorEq, seqD_l, seqD_t, frzS_ints, fzs_ints, List.length_map, Int.reduceLT, Int.reduceLE, Int.reduceNeg, Int.reduceToNat, Int.reduceAdd, Int.reduceSub, Int.reduceMul, Int.reducePow, decide_true, decide_false, Bool.or_true, Bool.true_or, Bool.or_false, Bool.false_or, Bool.false_and, Bool.and_false, ev_keep, roots, fW, hP]) ?_ (runs_nx (run1_asg (ρ1 := [some W, some P, some (nD r), some (nD k)]) (by simp only [ev_slot, ev_con, ev_bin, ev_un, ev_cmp, ev_chain, ev_and, ev_or, ev_not, ev_ite, ev_idx, ev_sl, ev_fld, ev_tup, ev_lst, ev_call, ev_mk, ev_blt, ev_isi, evs_nil, evs_cons, evT_nil, evT_one, evI_lst, evI_r1, evI_r2, evI_down, evI_enum, evI_zip, binG_i, binG_l, cmpG_i, cmpG_n, cmpG_tt, cmpG_ll, len_l, len_t, int_i, int_b, tuple_l, tuple_t, list_l, list_t, binD, cmpD, unD, isiD, kdD, isK, truD, test, kept, keptS, keptI, peek, peekS, frzL, frzAt_nil, frzAt_z, frzAt_n, frzAt_s, frz_int, frz_bl, frz_non, frz_tup, frz_objn, frz_ro, frz_own, frz_fz', List.getElem?_cons_zero, List.getElem?_cons_succ, List.nil_append, List.cons_append, Option.map_some, Option.map_none, Option.bind_some, List.set_cons_zero, List.set_cons_succ, List.set_nil, fz_int, fz_bl, fz_non, fz_tup, fz_lf, fz_lr, fz_lo, fz_on, D.scal, D.isN, Bool.and_true, Bool.true_and, Bool.and_self, Bool.not_true, Bool.not_false, if_true, if_false, Bool.false_eq_true, reduceIte, reduceCtorEq, seqD_l, seqD_t, frzS_ints, fzs_ints, List.length_map, Int.reduceLT, Int.reduceLE, Int.reduceNeg, Int.reduceToNat, Int.reduceAdd, Int.reduceSub, Int.reduceMul, Int.reducePow, decide_true, decide_false, Bool.or_true, Bool.true_or, Bool.or_false, Bool.false_or, Bool.false_and, Bool.and_false, ev_keep, roots]) (d := nD (r ||| 2 ^ k)) (evO (evSl rfl) (evS (evSl rfl) (by omega))) rfl) runs_nil) runs_nil
          rw [show some (nD k) = some (D.int (k : Int)) from rfl, ht, decide_eq_true c.1, decide_eq_true c.2]
          rfl
        · rw [Nat.testBit_or, Nat.testBit_two_pow, Bool.or_eq_true, h3, take_succ' hp, List.mem_append, List.mem_singleton, decide_eq_true_eq]
          constructor
          · rintro (⟨a1, a2⟩ | rfl)
            · exact ⟨a1, .inl a2⟩
            · exact ⟨hk, .inr rfl⟩
          · rintro ⟨a1, a2 | a2⟩
            · exact .inl ⟨a1, a2⟩
            · exact .inr (by omega)
      · refine ⟨[some W, some P, some (nD r), some (.int p)], [some W, some P, some (nD r), some (.int p)], rfl, .inl ?_, _, _, rfl, fun b => ?_⟩
        · refine runs_if false (ρ1 := [some W, some P, some (nD r), some (.int p)]) (by simp only [ev_slot, ev_con, ev_bin, ev_un, ev_cmp, ev_chain, ev_and, ev_or, ev_not, ev_ite, ev_idx, ev_sl, ev_fld, ev_tup, ev_lst, ev_call, ev_mk, ev_blt, ev_isi, evs_nil, evs_cons, evT_nil, evT_one, evI_lst, evI_r1, evI_r2, evI_down, evI_enum, evI_zip, binG_i, binG_l, cmpG_i, cmpG_n, cmpG_tt, cmpG_ll, len_l, len_t, int_i, int_b, tuple_l, tuple_t, list_l, list_t, binD, cmpD, unD, isiD, kdD, isK, truD, test, kept, keptS, keptI, peek, peekS, frzL, frzAt_nil, frzAt_z, frzAt_n, frzAt_s, frz_int, frz_bl, frz_non, frz_tup, frz_objn, frz_ro, frz_own, frz_fz', List.getElem?_cons_zero, List.getElem?_cons_succ, List.nil_append, List.cons_append, Option.map_some, Option.map_none, Option.bind_some, List.set_cons_zero, List.set_cons_succ, List.set_nil, fz_int, fz_bl, fz_non, fz_tup, fz_lf, fz_lr, fz_lo, fz_on, D.scal, D.isN, Bool.and_true, Bool.true_and, Bool.and_self, Bool.not_true, Bool.not_false, if_true, if_false, Bool.false_eq_true, reduceIte, reduceCtorEq, seqD_l, seqD_t, frzS_ints, fzs_ints, List.length_map, Int.reduceLT, Int.reduceLE, Int.reduceNeg, Int.reduceToNat, Int.reduceAdd, Int.reduceSub, Int.reduceMul, Int.reducePow, decide_true, decide_false, Bool.or_true, Bool.true_or, Bool.or_false, Bool.false_or, Bool.false_and, Bool.and_false, ev_keep, roots, fW, hP]) ?_ runs_nil runs_nil
          rw [ht]
          rcases Classical.em (0 ≤ p) with c1 | c1
          · rw [decide_eq_true c1, decide_eq_false (by omega : ¬ p < (n : Int))]
            rfl
          · rw [decide_eq_false c1]
            rfl
        · rw [h3, take_succ' hp, List.mem_append, List.mem_singleton]
          constructor
          · rintro ⟨a1, a2⟩
            exact ⟨a1, .inl a2⟩
          · rintro ⟨a1, a2 | a2⟩
            · exact ⟨a1, a2⟩
            · exact absurd (show 0 ≤ p ∧ p < (n : Int) by omega) c)
  refine ⟨r, runD_rt rfl ?_, fun b => by rw [h3, List.length_map, List.take_length]⟩
  show runs G b11 [some W, some P, none, none] = _
  unfold b11
  refine runs_nx (run1_asg (ρ1 := [some W, some P, none, none]) (by simp only [ev_slot, ev_con, ev_bin, ev_un, ev_cmp, ev_chain, ev_and, ev_or, ev_not, ev_ite, ev_idx, ev_sl, ev_fld, ev_tup, ev_lst, ev_call, ev_mk, ev_blt, ev_isi, evs_nil, evs_cons, evT_nil, evT_one, evI_lst, evI_r1, evI_r2, evI_down, evI_enum, evI_zip, binG_i, binG_l, cmpG_i, cmpG_n, cmpG_tt, cmpG_ll, len_l, len_t, int_i, int_b, tuple_l, tuple_t, list_l, list_t, binD, cmpD, unD, isiD, kdD, isK, truD, test, kept, keptS, keptI, peek, peekS, frzL, frzAt_nil, frzAt_z, frzAt_n, frzAt_s, frz_int, frz_bl, frz_non, frz_tup, frz_objn, frz_ro, frz_own, frz_fz', List.getElem?_cons_zero, List.getElem?_cons_succ, List.nil_append, List.cons_append, Option.map_some, Option.map_none, Option.bind_some, List.set_cons_zero, List.set_cons_succ, List.set_nil, fz_int, fz_bl, fz_non, fz_tup, fz_lf, fz_lr, fz_lo, fz_on, D.scal, D.isN, Bool.and_true, Bool.true_and, Bool.and_self, Bool.not_true, Bool.not_false, if_true, if_false, Bool.false_eq_true, reduceIte, reduceCtorEq, seqD_l, seqD_t, frzS_ints, fzs_ints, List.length_map, Int.reduceLT, Int.reduceLE, Int.reduceNeg, Int.reduceToNat, Int.reduceAdd, Int.reduceSub, Int.reduceMul, Int.reducePow, decide_true, decide_false, Bool.or_true, Bool.true_or, Bool.or_false, Bool.false_or, Bool.false_and, Bool.and_false, ev_keep, roots]) (d := nD 0) (by simp only [ev_slot, ev_con, ev_bin, ev_un, ev_cmp, ev_chain, ev_and, ev_or, ev_not, ev_ite, ev_idx, ev_sl, ev_fld, ev_tup, ev_lst, ev_call, ev_mk, ev_blt, ev_isi, evs_nil, evs_cons, evT_nil, evT_one, evI_lst, evI_r1, evI_r2, evI_down, evI_enum, evI_zip, binG_i, binG_l, cmpG_i, cmpG_n, cmpG_tt, cmpG_ll, len_l, len_t, int_i, int_b, tuple_l, tuple_t, list_l, list_t, binD, cmpD, unD, isiD, kdD, isK, truD, test, kept, keptS, keptI, peek, peekS, frzL, frzAt_nil, frzAt_z, frzAt_n, frzAt_s, frz_int, frz_bl, frz_non, frz_tup, frz_objn, frz_ro, frz_own, frz_fz', List.getElem?_cons_zero, List.getElem?_cons_succ, List.nil_append, List.cons_append, Option.map_some, Option.map_none, Option.bind_some, List.set_cons_zero, List.set_cons_succ, List.set_nil, fz_int, fz_bl, fz_non, fz_tup, fz_lf, fz_lr, fz_lo, fz_on, D.scal, D.isN, Bool.and_true, Bool.true_and, Bool.and_self, Bool.not_true, Bool.not_false, if_true, if_false, Bool.false_eq_true, reduceIte, reduceCtorEq, seqD_l, seqD_t, frzS_ints, fzs_ints, List.length_map, Int.reduceLT, Int.reduceLE, Int.reduceNeg, Int.reduceToNat, Int.reduceAdd, Int.reduceSub, Int.reduceMul, Int.reducePow, decide_true, decide_false, Bool.or_true, Bool.true_or, Bool.or_false, Bool.false_or, Bool.false_and, Bool.and_false, ev_keep, roots]; rfl) rfl) (runs_nx (run1_for (ρ1 := [some W, some P, some (nD 0), none]) (by simp only [ev_slot, ev_con, ev_bin, ev_un, ev_cmp, ev_chain, ev_and, ev_or, ev_not, ev_ite, ev_idx, ev_sl, ev_fld, ev_tup, ev_lst, ev_call, ev_mk, ev_blt, ev_isi, evs_nil, evs_cons, evT_nil, evT_one, evI_lst, evI_r1, evI_r2, evI_down, evI_enum, evI_zip, binG_i, binG_l, cmpG_i, cmpG_n, cmpG_tt, cmpG_ll, len_l, len_t, int_i, int_b, tuple_l, tuple_t, list_l, list_t, binD, cmpD, unD, isiD, kdD, isK, truD, test, kept, keptS, keptI, peek, peekS, frzL, frzAt_nil, frzAt_z, frzAt_n, frzAt_s, frz_int, frz_bl, frz_non, frz_tup, frz_objn, frz_ro, frz_own, frz_fz', List.getElem?_cons_zero, List.getElem?_cons_succ, List.nil_append, List.cons_append, Option.map_some, Option.map_none, Option.bind_some, List.set_cons_zero, List.set_cons_succ, List.set_nil, fz_int, fz_bl, fz_non, fz_tup, fz_lf, fz_lr, fz_lo, fz_on, D.scal, D.isN, Bool.and_true, Bool.true_and, Bool.and_self, Bool.not_true, Bool.not_false, if_true, if_false, Bool.false_eq_true, reduceIte, reduceCtorEq, seqD_l, seqD_t, frzS_ints, fzs_ints, List.length_map, Int.reduceLT, Int.reduceLE, Int.reduceNeg, Int.reduceToNat, Int.reduceAdd, Int.reduceSub, Int.reduceMul, Int.reducePow, decide_true, decide_false, Bool.or_true, Bool.true_or, Bool.or_false, Bool.false_or, Bool.false_and, Bool.and_false, ev_keep, roots, hP]) (items := is.map D.int) ?_ (by rw [← hbd]; exact h2)) (runs_rt (run1_ret (ρ1 := [some W, some P, some (nD r), v3]) (by simp only [ev_slot, ev_con, ev_bin, ev_un, ev_cmp, ev_chain, ev_and, ev_or, ev_not, ev_ite, ev_idx, ev_sl, ev_fld, ev_tup, ev_lst, ev_call, ev_mk, ev_blt, ev_isi, evs_nil, evs_cons, evT_nil, evT_one, evI_lst, evI_r1, evI_r2, evI_down, evI_enum, evI_zip, binG_i, binG_l, cmpG_i, cmpG_n, cmpG_tt, cmpG_ll, len_l, len_t, int_i, int_b, tuple_l, tuple_t, list_l, list_t, binD, cmpD, unD, isiD, kdD, isK, truD, test, kept, keptS, keptI, peek, peekS, frzL, frzAt_nil, frzAt_z, frzAt_n, frzAt_s, frz_int, frz_bl, frz_non, frz_tup, frz_objn, frz_ro, frz_own, frz_fz', List.getElem?_cons_zero, List.getElem?_cons_succ, List.nil_append, List.cons_append, Option.map_some, Option.map_none, Option.bind_some, List.set_cons_zero, List.set_cons_succ, List.set_nil, fz_int, fz_bl, fz_non, fz_tup, fz_lf, fz_lr, fz_lo, fz_on, D.scal, D.isN, Bool.and_true, Bool.true_and, Bool.and_self, Bool.not_true, Bool.not_false, if_true, if_false, Bool.false_eq_true, reduceIte, reduceCtorEq, seqD_l, seqD_t, frzS_ints, fzs_ints, List.length_map, Int.reduceLT, Int.reduceLE, Int.reduceNeg, Int.reduceToNat, Int.reduceAdd, Int.reduceSub, Int.reduceMul, Int.reducePow, decide_true, decide_false, Bool.or_true, Bool.true_or, Bool.or_false, Bool.false_or, Bool.false_and, Bool.and_false, ev_keep, roots, nD_frz]) (evSl rfl))))
  simp only [ev_slot, ev_con, ev_bin, ev_un, ev_cmp, ev_chain, ev_and, ev_or, ev_not, ev_ite, ev_idx, ev_sl, ev_fld, ev_tup, ev_lst, ev_call, ev_mk, ev_blt, ev_isi, evs_nil, evs_cons, evT_nil, evT_one, evI_lst, evI_r1, evI_r2, evI_down, evI_enum, evI_zip, binG_i, binG_l, cmpG_i, cmpG_n, cmpG_tt, cmpG_ll, len_l, len_t, int_i, int_b, tuple_l, tuple_t, list_l, list_t, binD, cmpD, unD, isiD, kdD, isK, truD, test, kept, keptS, keptI, peek, peekS, frzL, frzAt_nil, frzAt_z, frzAt_n, frzAt_s, frz_int, frz_bl, frz_non, frz_tup, frz_objn, frz_ro, frz_own, frz_fz', List.getElem?_cons_zero, List.getElem?_cons_succ, List.nil_append, List.cons_append, Option.map_some, Option.map_none, Option.bind_some, List.set_cons_zero, List.set_cons_succ, List.set_nil, fz_int, fz_bl, fz_non, fz_tup, fz_lf, fz_lr, fz_lo, fz_on, D.scal, D.isN, Bool.and_true, Bool.true_and, Bool.and_self, Bool.not_true, Bool.not_false, if_true, if_false, Bool.false_eq_true, reduceIte, reduceCtorEq, seqD_l, seqD_t, frzS_ints, fzs_ints, List.length_map, Int.reduceLT, Int.reduceLE, Int.reduceNeg, Int.reduceToNat, Int.reduceAdd, Int.reduceSub, Int.reduceMul, Int.reducePow, decide_true, decide_false, Bool.or_true, Bool.true_or, Bool.or_false, Bool.false_or, Bool.false_and, Bool.and_false, ev_keep, roots, hf, hP, hs]
end
end P5

/-! M5e: masks. -/
namespace P5
open PySem L2 Z Bt
section
variable {G : Gd} {ρ : Rho}
/-- masks_of_scene -/
theorem masks_ok {W : D} {pic : List Nat} (hl : pic.length ≤ 1000) : ∃ f r : Nat, runD G f9 [scD W pic] = some (.tup [nD f, nD r]) ∧ (∀ b, f.testBit b = true ↔ pic[b]? = some 1) ∧ ∀ b, r.testBit b = true ↔ pic[b]? = some 2 := by
  obtain ⟨bd, hbd⟩ : ∃ x : Ss, x = .cons (.ite (.cmp .Eq (.slot 4) (.con (.int 1))) (.cons (.asg (.name 1) (.bin .BitOr (.slot 1) (.bin .LShift (.con (.int 1)) (.slot 3)))) (.nil)) (.cons (.ite (.cmp .Eq (.slot 4) (.con (.int 2))) (.cons (.asg (.name 2) (.bin .BitOr (.slot 2) (.bin .LShift (.con (.int 1)) (.slot 3)))) (.nil)) (.nil)) (.nil))) (.nil) := ⟨_, rfl⟩
  generalize hW : scD W pic = S
  have fW : frz S = S := by rw [← hW]; rfl
  have zW : ∀ rest, ev G (.fld (.slot 0) 5) (some S :: rest) = some (nsD pic, true) := fun rest => by rw [ev_fld, ev_slot, ← hW]; rfl
  obtain ⟨ρ', h2, f, r, v3, v4, rfl, h3, h4⟩ := for_inv (bd := bindT (.tup [.name 3, .name 4])) (body := runs G bd) (items := enumD 0 (pic.map nD)) (ρ := [some S, some (nD 0), some (nD 0), none, none])
    (fun i ρ => ∃ (f r : Nat) (v3 v4 : Option D), ρ = [some S, some (nD f), some (nD r), v3, v4] ∧ (∀ b, f.testBit b = true ↔ (b < i ∧ pic[b]? = some 1)) ∧ ∀ b, r.testBit b = true ↔ (b < i ∧ pic[b]? = some 2)) ⟨0, 0, none, none, rfl, fun b => by simp, fun b => by simp⟩ (by
      rintro i d ρ hi ⟨f, r, v3, v4, rfl, h3, h4⟩
      rw [enum_get, List.getElem?_map] at hi
      obtain ⟨d1, hd1, rfl⟩ := Option.map_eq_some_iff.mp hi
      obtain ⟨s, hs, rfl⟩ := Option.map_eq_some_iff.mp hd1
      have hil : i < pic.length := (List.getElem?_eq_some_iff.mp hs).1
      have e0 : (0 : Int) + (i : Int) = (i : Int) := by omega
      rw [e0]
      subst hbd
      have grow : ∀ (m v : Nat), (∀ b, m.testBit b = true ↔ (b < i ∧ pic[b]? = some v)) → s ≠ v → ∀ b, m.testBit b = true ↔ (b < i + 1 ∧ pic[b]? = some v) := fun m v h n b => by
        rw [h]
        constructor
        · rintro ⟨a1, a2⟩; exact ⟨by omega, a2⟩
        · rintro ⟨a1, a2⟩
          refine ⟨?_, a2⟩
          rcases Nat.lt_or_eq_of_le (Nat.le_of_lt_succ a1) with c | c
          · exact c
          · subst c
            rw [hs] at a2
            exact absurd (Option.some.inj a2) n
      have add : ∀ (m v : Nat), (∀ b, m.testBit b = true ↔ (b < i ∧ pic[b]? = some v)) → s = v → ∀ b, (m ||| 2 ^ i).testBit b = true ↔ (b < i + 1 ∧ pic[b]? = some v) := fun m v h n b => by
        rw [Nat.testBit_or, Nat.testBit_two_pow, Bool.or_eq_true, h, decide_eq_true_eq]
        constructor
        · rintro (⟨a1, a2⟩ | rfl)
          · exact ⟨by omega, a2⟩
          · exact ⟨by omega, by rw [hs, n]⟩
        · rintro ⟨a1, a2⟩
          rcases Nat.lt_or_eq_of_le (Nat.le_of_lt_succ a1) with c | c
          · exact .inl ⟨c, a2⟩
          · exact .inr c.symm
      have st : ∀ v : Nat, (((s : Nat) : Int) == ((v : Nat) : Int)) = decide (s = v) := fun v => by
        by_cases c : s = v
        · subst c; simp
        · rw [decide_eq_false c, beq_eq_false_iff_ne]; omega
      by_cases s1 : s = 1
      · refine ⟨[some S, some (nD f), some (nD r), some (nD i), some (nD s)], [some S, some (nD (f ||| 2 ^ i)), some (nD r), some (nD i), some (nD s)], rfl, .inl ?_, _, _, _, _, rfl, add f 1 h3 s1, grow r 2 h4 (by omega)⟩
        refine runs_if true (ρ1 := [some S, some (nD f), some (nD r), some (nD i), some (nD s)]) (by simp only [ev_slot, ev_con, ev_bin, ev_un, ev_cmp, ev_chain, ev_and, ev_or, ev_not, ev_ite, ev_idx, ev_sl, ev_fld, ev_tup, ev_lst, ev_call, ev_mk, ev_blt, ev_isi, evs_nil, evs_cons, evT_nil, evT_one, evI_lst, evI_r1, evI_r2, evI_down, evI_enum, evI_zip, binG_i, binG_l, cmpG_i, cmpG_n, cmpG_tt, cmpG_ll, len_l, len_t, int_i, int_b, tuple_l, tuple_t, list_l, list_t, binD, cmpD, unD, isiD, kdD, isK, truD, test, kept, keptS, keptI, peek, peekS, frzL, frzAt_nil, frzAt_z, frzAt_n, frzAt_s, frz_int, frz_bl, frz_non, frz_tup, frz_objn, frz_ro, frz_own, frz_fz', List.getElem?_cons_zero, List.getElem?_cons_succ, List.nil_append, List.cons_append, Option.map_some, Option.map_none, Option.bind_some, List.set_cons_zero, List.set_cons_succ, List.set_nil, fz_int, fz_bl, fz_non, fz_tup, fz_lf, fz_lr, fz_lo, fz_on, D.scal, D.isN, Bool.and_true, Bool.true_and, Bool.and_self, Bool.not_true, Bool.not_false, if_true, if_false, Bool.false_eq_true, reduceIte, reduceCtorEq, seqD_l, seqD_t, frzS_ints, fzs_ints, List.length_map, Int.reduceLT, Int.reduceLE, Int.reduceNeg, Int.reduceToNat, Int.reduceAdd, Int.reduceSub, Int.reduceMul, Int.reducePow, decide_true, decide_false, Bool.or_true, Bool.true_or, Bool.or_false, Bool.false_or, Bool.false_and, Bool.and_false, ev_keep, roots, nD_frz]) ?_ (runs_nx (run1_asg (ρ1 := [some S, some (nD f), some (nD r), some (nD i), some (nD s)]) (by simp only [ev_slot, ev_con, ev_bin, ev_un, ev_cmp, ev_chain, ev_and, ev_or, ev_not, ev_ite, ev_idx, ev_sl, ev_fld, ev_tup, ev_lst, ev_call, ev_mk, ev_blt, ev_isi, evs_nil, evs_cons, evT_nil, evT_one, evI_lst, evI_r1, evI_r2, evI_down, evI_enum, evI_zip, binG_i, binG_l, cmpG_i, cmpG_n, cmpG_tt, cmpG_ll, len_l, len_t, int_i, int_b, tuple_l, tuple_t, list_l, list_t, binD, cmpD, unD, isiD, kdD, isK, truD, test, kept, keptS, keptI, peek, peekS, frzL, frzAt_nil, frzAt_z, frzAt_n, frzAt_s, frz_int, frz_bl, frz_non, frz_tup, frz_objn, frz_ro, frz_own, frz_fz', List.getElem?_cons_zero, List.getElem?_cons_succ, List.nil_append, List.cons_append, Option.map_some, Option.map_none, Option.bind_some, List.set_cons_zero, List.set_cons_succ, List.set_nil, fz_int, fz_bl, fz_non, fz_tup, fz_lf, fz_lr, fz_lo, fz_on, D.scal, D.isN, Bool.and_true, Bool.true_and, Bool.and_self, Bool.not_true, Bool.not_false, if_true, if_false, Bool.false_eq_true, reduceIte, reduceCtorEq, seqD_l, seqD_t, frzS_ints, fzs_ints, List.length_map, Int.reduceLT, Int.reduceLE, Int.reduceNeg, Int.reduceToNat, Int.reduceAdd, Int.reduceSub, Int.reduceMul, Int.reducePow, decide_true, decide_false, Bool.or_true, Bool.true_or, Bool.or_false, Bool.false_or, Bool.false_and, Bool.and_false, ev_keep, roots, nD_frz]) (d := nD (f ||| 2 ^ i)) (evO (evSl rfl) (evS (evSl rfl) (by omega))) rfl) runs_nil) runs_nil
        rw [evEq (evSl rfl) (evCon rfl)]
        exact congrArg some ((st 1).trans (decide_eq_true s1))
      · by_cases s2 : s = 2
        · refine ⟨[some S, some (nD f), some (nD r), some (nD i), some (nD s)], [some S, some (nD f), some (nD (r ||| 2 ^ i)), some (nD i), some (nD s)], rfl, .inl ?_, _, _, _, _, rfl, grow f 1 h3 s1, add r 2 h4 s2⟩
          refine runs_if false (ρ1 := [some S, some (nD f), some (nD r), some (nD i), some (nD s)]) (by simp only [ev_slot, ev_con, ev_bin, ev_un, ev_cmp, ev_chain, ev_and, ev_or, ev_not, ev_ite, ev_idx, ev_sl, ev_fld, ev_tup, ev_lst, ev_call, ev_mk, ev_blt, ev_isi, evs_nil, evs_cons, evT_nil, evT_one, evI_lst, evI_r1, evI_r2, evI_down, evI_enum, evI_zip, binG_i, binG_l, cmpG_i, cmpG_n, cmpG_tt, cmpG_ll, len_l, len_t, int_i, int_b, tuple_l, tuple_t, list_l, list_t, binD, cmpD, unD, isiD, kdD, isK, truD, test, kept, keptS, keptI, peek, peekS, frzL, frzAt_nil, frzAt_z, frzAt_n, frzAt_s, frz_int, frz_bl, frz_non, frz_tup, frz_objn, frz_ro, frz_own, frz_fz', List.getElem?_cons_zero, List.getElem?_cons_succ, List.nil_append, List.cons_append, Option.map_some, Option.map_none, Option.bind_some, List.set_cons_zero, List.set_cons_succ, List.set_nil, fz_int, fz_bl, fz_non, fz_tup, fz_lf, fz_lr, fz_lo, fz_on, D.scal, D.isN, Bool.and_true, Bool.true_and, Bool.and_self, Bool.not_true, Bool.not_false, if_true, if_false, Bool.false_eq_true, reduceIte, reduceCtorEq, seqD_l, seqD_t, frzS_ints, fzs_ints, List.length_map, Int.reduceLT, Int.reduceLE, Int.reduceNeg, Int.reduceToNat, Int.reduceAdd, Int.reduceSub, Int.reduceMul, Int.reducePow, decide_true, decide_false, Bool.or_true, Bool.true_or, Bool.or_false, Bool.false_or, Bool.false_and, Bool.and_false, ev_keep, roots, nD_frz]) ?_ (runs_if true (ρ1 := [some S, some (nD f), some (nD r), some (nD i), some (nD s)]) (by simp only [ev_slot, ev_con, ev_bin, ev_un, ev_cmp, ev_chain, ev_and, ev_or, ev_not, ev_ite, ev_idx, ev_sl, ev_fld, ev_tup, ev_lst, ev_call, ev_mk, ev_blt, ev_isi, evs_nil, evs_cons, evT_nil, evT_one, evI_lst, evI_r1, evI_r2, evI_down, evI_enum, evI_zip, binG_i, binG_l, cmpG_i, cmpG_n, cmpG_tt, cmpG_ll, len_l, len_t, int_i, int_b, tuple_l, tuple_t, list_l, list_t, binD, cmpD, unD, isiD, kdD, isK, truD, test, kept, keptS, keptI, peek, peekS, frzL, frzAt_nil, frzAt_z, frzAt_n, frzAt_s, frz_int, frz_bl, frz_non, frz_tup, frz_objn, frz_ro, frz_own, frz_fz', List.getElem?_cons_zero, List.getElem?_cons_succ, List.nil_append, List.cons_append, Option.map_some, Option.map_none, Option.bind_some, List.set_cons_zero, List.set_cons_succ, List.set_nil, fz_int, fz_bl, fz_non, fz_tup, fz_lf, fz_lr, fz_lo, fz_on, D.scal, D.isN, Bool.and_true, Bool.true_and, Bool.and_self, Bool.not_true, Bool.not_false, if_true, if_false, Bool.false_eq_true, reduceIte, reduceCtorEq, seqD_l, seqD_t, frzS_ints, fzs_ints, List.length_map, Int.reduceLT, Int.reduceLE, Int.reduceNeg, Int.reduceToNat, Int.reduceAdd, Int.reduceSub, Int.reduceMul, Int.reducePow, decide_true, decide_false, Bool.or_true, Bool.true_or, Bool.or_false, Bool.false_or, Bool.false_and, Bool.and_false, ev_keep, roots, nD_frz]) ?_ (runs_nx (run1_asg (ρ1 := [some S, some (nD f), some (nD r), some (nD i), some (nD s)]) (by simp only [ev_slot, ev_con, ev_bin, ev_un, ev_cmp, ev_chain, ev_and, ev_or, ev_not, ev_ite, ev_idx, ev_sl, ev_fld, ev_tup, ev_lst, ev_call, ev_mk, ev_blt, ev_isi, evs_nil, evs_cons, evT_nil, evT_one, evI_lst, evI_r1, evI_r2, evI_down, evI_enum, evI_zip, binG_i, binG_l, cmpG_i, cmpG_n, cmpG_tt, cmpG_ll, len_l, len_t, int_i, int_b, tuple_l, tuple_t, list_l, list_t, binD, cmpD, unD, isiD, kdD, isK, truD, test, kept, keptS, keptI, peek, peekS, frzL, frzAt_nil, frzAt_z, frzAt_n, frzAt_s, frz_int, frz_bl, frz_non, frz_tup, frz_objn, frz_ro, frz_own, frz_fz', List.getElem?_cons_zero, List.getElem?_cons_succ, List.nil_append, List.cons_append, Option.map_some, Option.map_none, Option.bind_some, List.set_cons_zero, List.set_cons_succ, List.set_nil, fz_int, fz_bl, fz_non, fz_tup, fz_lf, fz_lr, fz_lo, fz_on, D.scal, D.isN, Bool.and_true, Bool.true_and, Bool.and_self, Bool.not_true, Bool.not_false, if_true, if_false, Bool.false_eq_true, reduceIte, reduceCtorEq, seqD_l, seqD_t, frzS_ints, fzs_ints, List.length_map, Int.reduceLT, Int.reduceLE, Int.reduceNeg, Int.reduceToNat, Int.reduceAdd, Int.reduceSub, Int.reduceMul, Int.reducePow, decide_true, decide_false, Bool.or_true, Bool.true_or, Bool.or_false, Bool.false_or, Bool.false_and, Bool.and_false, ev_keep, roots, nD_frz]) (d := nD (r ||| 2 ^ i)) (evO (evSl rfl) (evS (evSl rfl) (by omega))) rfl) runs_nil) runs_nil) runs_nil
          · rw [evEq (evSl rfl) (evCon rfl)]
            exact congrArg some ((st 1).trans (decide_eq_false s1))
          · rw [evEq (evSl rfl) (evCon rfl)]
            exact congrArg some ((st 2).trans (decide_eq_true s2))
        · refine ⟨[some S, some (nD f), some (nD r), some (nD i), some (nD s)], [some S, some (nD f), some (nD r), some (nD i), some (nD s)], rfl, .inl ?_, _, _, _, _, rfl, grow f 1 h3 s1, grow r 2 h4 s2⟩
          refine runs_if false (ρ1 := [some S, some (nD f), some (nD r), some (nD i), some (nD s)]) (by simp only [ev_slot, ev_con, ev_bin, ev_un, ev_cmp, ev_chain, ev_and, ev_or, ev_not, ev_ite, ev_idx, ev_sl, ev_fld, ev_tup, ev_lst, ev_call, ev_mk, ev_blt, ev_isi, evs_nil, evs_cons, evT_nil, evT_one, evI_lst, evI_r1, evI_r2, evI_down, evI_enum, evI_zip, binG_i, binG_l, cmpG_i, cmpG_n, cmpG_tt, cmpG_ll, len_l, len_t, int_i, int_b, tuple_l, tuple_t, list_l, list_t, binD, cmpD, unD, isiD, kdD, isK, truD, test, kept, keptS, keptI, peek, peekS, frzL, frzAt_nil, frzAt_z, frzAt_n, frzAt_s, frz_int, frz_bl, frz_non, frz_tup, frz_objn, frz_ro, frz_own, frz_fz', List.getElem?_cons_zero, List.getElem?_cons_succ, List.nil_append, List.cons_append, Option.map_some, Option.map_none, Option.bind_some, List.set_cons_zero, List.set_cons_succ, List.set_nil, fz_int, fz_bl, fz_non, fz_tup, fz_lf, fz_lr, fz_lo, fz_on, D.scal, D.isN, Bool.and_true, Bool.true_and, Bool.and_self, Bool.not_true, Bool.not_false, if_true, if_false, Bool.false_eq_true, reduceIte, reduceCtorEq, seqD_l, seqD_t, frzS_ints, fzs_ints, List.length_map, Int.reduceLT, Int.reduceLE, Int.reduceNeg, Int.reduceToNat, Int.reduceAdd, Int.reduceSub, Int.reduceMul, Int.reducePow, decide_true, decide_false, Bool.or_true, Bool.true_or, Bool.or_false, Bool.false_or, Bool.false_and, Bool.and_false, ev_keep, roots, nD_frz]) ?_ (runs_if false (ρ1 := [some S, some (nD f), some (nD r), some (nD i), some (nD s)]) (by simp only [ev_slot, ev_con, ev_bin, ev_un, ev_cmp, ev_chain, ev_and, ev_or, ev_not, ev_ite, ev_idx, ev_sl, ev_fld, ev_tup, ev_lst, ev_call, ev_mk, ev_blt, ev_isi, evs_nil, evs_cons, evT_nil, evT_one, evI_lst, evI_r1, evI_r2, evI_down, evI_enum, evI_zip, binG_i, binG_l, cmpG_i, cmpG_n, cmpG_tt, cmpG_ll, len_l, len_t, int_i, int_b, tuple_l, tuple_t, list_l, list_t, binD, cmpD, unD, isiD, kdD, isK, truD, test, kept, keptS, keptI, peek, peekS, frzL, frzAt_nil, frzAt_z, frzAt_n, frzAt_s, frz_int, frz_bl, frz_non, frz_tup, frz_objn, frz_ro, frz_own, frz_fz', List.getElem?_cons_zero, List.getElem?_cons_succ, List.nil_append, List.cons_append, Option.map_some, Option.map_none, Option.bind_some, List.set_cons_zero, List.set_cons_succ, List.set_nil, fz_int, fz_bl, fz_non, fz_tup, fz_lf, fz_lr, fz_lo, fz_on, D.scal, D.isN, Bool.and_true, Bool.true_and, Bool.and_self, Bool.not_true, Bool.not_false, if_true, if_false, Bool.false_eq_true, reduceIte, reduceCtorEq, seqD_l, seqD_t, frzS_ints, fzs_ints, List.length_map, Int.reduceLT, Int.reduceLE, Int.reduceNeg, Int.reduceToNat, Int.reduceAdd, Int.reduceSub, Int.reduceMul, Int.reducePow, decide_true, decide_false, Bool.or_true, Bool.true_or, Bool.or_false, Bool.false_or, Bool.false_and, Bool.and_false, ev_keep, roots, nD_frz]) ?_ runs_nil runs_nil) runs_nil
          · rw [evEq (evSl rfl) (evCon rfl)]
            exact congrArg some ((st 1).trans (decide_eq_false s1))
          · rw [evEq (evSl rfl) (evCon rfl)]
            exact congrArg some ((st 2).trans (decide_eq_false s2)))
  rw [enum_len, List.length_map] at h3 h4
  refine ⟨f, r, runD_rt rfl ?_, fun b => ?_, fun b => ?_⟩
  · show runs G b9 [some S, none, none, none, none] = _
    unfold b9
    refine runs_nx (run1_asg (ρ1 := [some S, none, none, none, none]) (by simp only [ev_slot, ev_con, ev_bin, ev_un, ev_cmp, ev_chain, ev_and, ev_or, ev_not, ev_ite, ev_idx, ev_sl, ev_fld, ev_tup, ev_lst, ev_call, ev_mk, ev_blt, ev_isi, evs_nil, evs_cons, evT_nil, evT_one, evI_lst, evI_r1, evI_r2, evI_down, evI_enum, evI_zip, binG_i, binG_l, cmpG_i, cmpG_n, cmpG_tt, cmpG_ll, len_l, len_t, int_i, int_b, tuple_l, tuple_t, list_l, list_t, binD, cmpD, unD, isiD, kdD, isK, truD, test, kept, keptS, keptI, peek, peekS, frzL, frzAt_nil, frzAt_z, frzAt_n, frzAt_s, frz_int, frz_bl, frz_non, frz_tup, frz_objn, frz_ro, frz_own, frz_fz', List.getElem?_cons_zero, List.getElem?_cons_succ, List.nil_append, List.cons_append, Option.map_some, Option.map_none, Option.bind_some, List.set_cons_zero, List.set_cons_succ, List.set_nil, fz_int, fz_bl, fz_non, fz_tup, fz_lf, fz_lr, fz_lo, fz_on, D.scal, D.isN, Bool.and_true, Bool.true_and, Bool.and_self, Bool.not_true, Bool.not_false, if_true, if_false, Bool.false_eq_true, reduceIte, reduceCtorEq, seqD_l, seqD_t, frzS_ints, fzs_ints, List.length_map, Int.reduceLT, Int.reduceLE, Int.reduceNeg, Int.reduceToNat, Int.reduceAdd, Int.reduceSub, Int.reduceMul, Int.reducePow, decide_true, decide_false, Bool.or_true, Bool.true_or, Bool.or_false, Bool.false_or, Bool.false_and, Bool.and_false, ev_keep, roots]) (d := nD 0) (by simp only [ev_slot, ev_con, ev_bin, ev_un, ev_cmp, ev_chain, ev_and, ev_or, ev_not, ev_ite, ev_idx, ev_sl, ev_fld, ev_tup, ev_lst, ev_call, ev_mk, ev_blt, ev_isi, evs_nil, evs_cons, evT_nil, evT_one, evI_lst, evI_r1, evI_r2, evI_down, evI_enum, evI_zip, binG_i, binG_l, cmpG_i, cmpG_n, cmpG_tt, cmpG_ll, len_l, len_t, int_i, int_b, tuple_l, tuple_t, list_l, list_t, binD, cmpD, unD, isiD, kdD, isK, truD, test, kept, keptS, keptI, peek, peekS, frzL, frzAt_nil, frzAt_z, frzAt_n, frzAt_s, frz_int, frz_bl, frz_non, frz_tup, frz_objn, frz_ro, frz_own, frz_fz', List.getElem?_cons_zero, List.getElem?_cons_succ, List.nil_append, List.cons_append, Option.map_some, Option.map_none, Option.bind_some, List.set_cons_zero, List.set_cons_succ, List.set_nil, fz_int, fz_bl, fz_non, fz_tup, fz_lf, fz_lr, fz_lo, fz_on, D.scal, D.isN, Bool.and_true, Bool.true_and, Bool.and_self, Bool.not_true, Bool.not_false, if_true, if_false, Bool.false_eq_true, reduceIte, reduceCtorEq, seqD_l, seqD_t, frzS_ints, fzs_ints, List.length_map, Int.reduceLT, Int.reduceLE, Int.reduceNeg, Int.reduceToNat, Int.reduceAdd, Int.reduceSub, Int.reduceMul, Int.reducePow, decide_true, decide_false, Bool.or_true, Bool.true_or, Bool.or_false, Bool.false_or, Bool.false_and, Bool.and_false, ev_keep, roots]; rfl) rfl) (runs_nx (run1_asg (ρ1 := [some S, some (nD 0), none, none, none]) (by simp only [ev_slot, ev_con, ev_bin, ev_un, ev_cmp, ev_chain, ev_and, ev_or, ev_not, ev_ite, ev_idx, ev_sl, ev_fld, ev_tup, ev_lst, ev_call, ev_mk, ev_blt, ev_isi, evs_nil, evs_cons, evT_nil, evT_one, evI_lst, evI_r1, evI_r2, evI_down, evI_enum, evI_zip, binG_i, binG_l, cmpG_i, cmpG_n, cmpG_tt, cmpG_ll, len_l, len_t, int_i, int_b, tuple_l, tuple_t, list_l, list_t, binD, cmpD, unD, isiD, kdD, isK, truD, test, kept, keptS, keptI, peek, peekS, frzL, frzAt_nil, frzAt_z, frzAt_n, frzAt_s, frz_int, frz_bl, frz_non, frz_tup, frz_objn, frz_ro, frz_own, frz_fz', List.getElem?_cons_zero, List.getElem?_cons_succ, List.nil_append, List.cons_append, Option.map_some, Option.map_none, Option.bind_some, List.set_cons_zero, List.set_cons_succ, List.set_nil, fz_int, fz_bl, fz_non, fz_tup, fz_lf, fz_lr, fz_lo, fz_on, D.scal, D.isN, Bool.and_true, Bool.true_and, Bool.and_self, Bool.not_true, Bool.not_false, if_true, if_false, Bool.false_eq_true, reduceIte, reduceCtorEq, seqD_l, seqD_t, frzS_ints, fzs_ints, List.length_map, Int.reduceLT, Int.reduceLE, Int.reduceNeg, Int.reduceToNat, Int.reduceAdd, Int.reduceSub, Int.reduceMul, Int.reducePow, decide_true, decide_false, Bool.or_true, Bool.true_or, Bool.or_false, Bool.false_or, Bool.false_and, Bool.and_false, ev_keep, roots]) (d := nD 0) (by simp only [ev_slot, ev_con, ev_bin, ev_un, ev_cmp, ev_chain, ev_and, ev_or, ev_not, ev_ite, ev_idx, ev_sl, ev_fld, ev_tup, ev_lst, ev_call, ev_mk, ev_blt, ev_isi, evs_nil, evs_cons, evT_nil, evT_one, evI_lst, evI_r1, evI_r2, evI_down, evI_enum, evI_zip, binG_i, binG_l, cmpG_i, cmpG_n, cmpG_tt, cmpG_ll, len_l, len_t, int_i, int_b, tuple_l, tuple_t, list_l, list_t, binD, cmpD, unD, isiD, kdD, isK, truD, test, kept, keptS, keptI, peek, peekS, frzL, frzAt_nil, frzAt_z, frzAt_n, frzAt_s, frz_int, frz_bl, frz_non, frz_tup, frz_objn, frz_ro, frz_own, frz_fz', List.getElem?_cons_zero, List.getElem?_cons_succ, List.nil_append, List.cons_append, Option.map_some, Option.map_none, Option.bind_some, List.set_cons_zero, List.set_cons_succ, List.set_nil, fz_int, fz_bl, fz_non, fz_tup, fz_lf, fz_lr, fz_lo, fz_on, D.scal, D.isN, Bool.and_true, Bool.true_and, Bool.and_self, Bool.not_true, Bool.not_false, if_true, if_false, Bool.false_eq_true, reduceIte, reduceCtorEq, seqD_l, seqD_t, frzS_ints, fzs_ints, List.length_map, Int.reduceLT, Int.reduceLE, Int.reduceNeg, Int.reduceToNat, Int.reduceAdd, Int.reduceSub, Int.reduceMul, Int.reducePow, decide_true, decide_false, Bool.or_true, Bool.true_or, Bool.or_false, Bool.false_or, Bool.false_and, Bool.and_false, ev_keep, roots]; rfl) rfl) (runs_nx (run1_for (ρ1 := [some S, some (nD 0), some (nD 0), none, none]) (by simp only [ev_slot, ev_con, ev_bin, ev_un, ev_cmp, ev_chain, ev_and, ev_or, ev_not, ev_ite, ev_idx, ev_sl, ev_fld, ev_tup, ev_lst, ev_call, ev_mk, ev_blt, ev_isi, evs_nil, evs_cons, evT_nil, evT_one, evI_lst, evI_r1, evI_r2, evI_down, evI_enum, evI_zip, binG_i, binG_l, cmpG_i, cmpG_n, cmpG_tt, cmpG_ll, len_l, len_t, int_i, int_b, tuple_l, tuple_t, list_l, list_t, binD, cmpD, unD, isiD, kdD, isK, truD, test, kept, keptS, keptI, peek, peekS, frzL, frzAt_nil, frzAt_z, frzAt_n, frzAt_s, frz_int, frz_bl, frz_non, frz_tup, frz_objn, frz_ro, frz_own, frz_fz', List.getElem?_cons_zero, List.getElem?_cons_succ, List.nil_append, List.cons_append, Option.map_some, Option.map_none, Option.bind_some, List.set_cons_zero, List.set_cons_succ, List.set_nil, fz_int, fz_bl, fz_non, fz_tup, fz_lf, fz_lr, fz_lo, fz_on, D.scal, D.isN, Bool.and_true, Bool.true_and, Bool.and_self, Bool.not_true, Bool.not_false, if_true, if_false, Bool.false_eq_true, reduceIte, reduceCtorEq, seqD_l, seqD_t, frzS_ints, fzs_ints, List.length_map, Int.reduceLT, Int.reduceLE, Int.reduceNeg, Int.reduceToNat, Int.reduceAdd, Int.reduceSub, Int.reduceMul, Int.reducePow, decide_true, decide_false, Bool.or_true, Bool.true_or, Bool.or_false, Bool.false_or, Bool.false_and, Bool.and_false, ev_keep, roots, fW]) (items := enumD 0 (pic.map nD)) ?_ (by rw [← hbd]; exact h2)) (runs_rt (run1_ret (ρ1 := [some S, some (nD f), some (nD r), v3, v4]) (by simp only [ev_slot, ev_con, ev_bin, ev_un, ev_cmp, ev_chain, ev_and, ev_or, ev_not, ev_ite, ev_idx, ev_sl, ev_fld, ev_tup, ev_lst, ev_call, ev_mk, ev_blt, ev_isi, evs_nil, evs_cons, evT_nil, evT_one, evI_lst, evI_r1, evI_r2, evI_down, evI_enum, evI_zip, binG_i, binG_l, cmpG_i, cmpG_n, cmpG_tt, cmpG_ll, len_l, len_t, int_i, int_b, tuple_l, tuple_t, list_l, list_t, binD, cmpD, unD, isiD, kdD, isK, truD, test, kept, keptS, keptI, peek, peekS, frzL, frzAt_nil, frzAt_z, frzAt_n, frzAt_s, frz_int, frz_bl, frz_non, frz_tup, frz_objn, frz_ro, frz_own, frz_fz', List.getElem?_cons_zero, List.getElem?_cons_succ, List.nil_append, List.cons_append, Option.map_some, Option.map_none, Option.bind_some, List.set_cons_zero, List.set_cons_succ, List.set_nil, fz_int, fz_bl, fz_non, fz_tup, fz_lf, fz_lr, fz_lo, fz_on, D.scal, D.isN, Bool.and_true, Bool.true_and, Bool.and_self, Bool.not_true, Bool.not_false, if_true, if_false, Bool.false_eq_true, reduceIte, reduceCtorEq, seqD_l, seqD_t, frzS_ints, fzs_ints, List.length_map, Int.reduceLT, Int.reduceLE, Int.reduceNeg, Int.reduceToNat, Int.reduceAdd, Int.reduceSub, Int.reduceMul, Int.reducePow, decide_true, decide_false, Bool.or_true, Bool.true_or, Bool.or_false, Bool.false_or, Bool.false_and, Bool.and_false, ev_keep, roots, nD_frz]) ?_))))
    · rw [evI_enum, zW]
      rfl
    · rw [ev_tup, evs_cons, evs_cons, evs_nil, evSl rfl, evSl rfl]
      rfl
  · rw [h3]
    exact ⟨fun h => h.2, fun h => ⟨(List.getElem?_eq_some_iff.mp h).1, h⟩⟩
  · rw [h4]
    exact ⟨fun h => h.2, fun h => ⟨(List.getElem?_eq_some_iff.mp h).1, h⟩⟩
/-- next_masks -/
theorem next_ok {ms : List Nat} {f r k : Nat} (hsp : ∀ m, m < 2 ^ ms.length → ∃ x : Nat, G.call 2 [nsD ms, nD m] = some (nD x) ∧ ∀ b, x.testBit b = true ↔ ∃ p, m.testBit p = true ∧ (ms.getD p 0).testBit b = true) (hf : f < 2 ^ ms.length) :
    ∃ x : Nat, runD G f12 [nsD ms, .tup [nD f, nD r], nD k] = some (.tup [nD x, nD f]) ∧ ∀ b, x.testBit b = true ↔ ((∃ p, f.testBit p = true ∧ (ms.getD p 0).testBit b = true) ∨ k.testBit b = true) ∧ ¬ f.testBit b = true ∧ ¬ r.testBit b = true := by
  obtain ⟨x, h1, h2⟩ := hsp f hf
  obtain ⟨c, h3, h4⟩ := and_not (x ||| k) (f ||| r)
  refine ⟨c, runD_rt rfl ?_, fun b => ?_⟩
  · show runs G b12 [some (nsD ms), some (.tup [nD f, nD r]), some (nD k), none, none, none] = _
    unfold b12
    refine runs_nx (run1_asg (ρ1 := [some (nsD ms), some (.tup [nD f, nD r]), some (nD k), none, none, none]) (by simp only [ev_slot, ev_con, ev_bin, ev_un, ev_cmp, ev_chain, ev_and, ev_or, ev_not, ev_ite, ev_idx, ev_sl, ev_fld, ev_tup, ev_lst, ev_call, ev_mk, ev_blt, ev_isi, evs_nil, evs_cons, evT_nil, evT_one, evI_lst, evI_r1, evI_r2, evI_down, evI_enum, evI_zip, binG_i, binG_l, cmpG_i, cmpG_n, cmpG_tt, cmpG_ll, len_l, len_t, int_i, int_b, tuple_l, tuple_t, list_l, list_t, binD, cmpD, unD, isiD, kdD, isK, truD, test, kept, keptS, keptI, peek, peekS, frzL, frzAt_nil, frzAt_z, frzAt_n, frzAt_s, frz_int, frz_bl, frz_non, frz_tup, frz_objn, frz_ro, frz_own, frz_fz', List.getElem?_cons_zero, List.getElem?_cons_succ, List.nil_append, List.cons_append, Option.map_some, Option.map_none, Option.bind_some, List.set_cons_zero, List.set_cons_succ, List.set_nil, fz_int, fz_bl, fz_non, fz_tup, fz_lf, fz_lr, fz_lo, fz_on, D.scal, D.isN, Bool.and_true, Bool.true_and, Bool.and_self, Bool.not_true, Bool.not_false, if_true, if_false, Bool.false_eq_true, reduceIte, reduceCtorEq, seqD_l, seqD_t, frzS_ints, fzs_ints, List.length_map, Int.reduceLT, Int.reduceLE, Int.reduceNeg, Int.reduceToNat, Int.reduceAdd, Int.reduceSub, Int.reduceMul, Int.reducePow, decide_true, decide_false, Bool.or_true, Bool.true_or, Bool.or_false, Bool.false_or, Bool.false_and, Bool.and_false, ev_keep, roots]) (d := .tup [nD f, nD r]) (evSl rfl) rfl) (runs_nx (run1_asg (ρ1 := [some (nsD ms), some (.tup [nD f, nD r]), some (nD k), none, some (nD f), some (nD r)]) (by simp only [ev_slot, ev_con, ev_bin, ev_un, ev_cmp, ev_chain, ev_and, ev_or, ev_not, ev_ite, ev_idx, ev_sl, ev_fld, ev_tup, ev_lst, ev_call, ev_mk, ev_blt, ev_isi, evs_nil, evs_cons, evT_nil, evT_one, evI_lst, evI_r1, evI_r2, evI_down, evI_enum, evI_zip, binG_i, binG_l, cmpG_i, cmpG_n, cmpG_tt, cmpG_ll, len_l, len_t, int_i, int_b, tuple_l, tuple_t, list_l, list_t, binD, cmpD, unD, isiD, kdD, isK, truD, test, kept, keptS, keptI, peek, peekS, frzL, frzAt_nil, frzAt_z, frzAt_n, frzAt_s, frz_int, frz_bl, frz_non, frz_tup, frz_objn, frz_ro, frz_own, frz_fz', List.getElem?_cons_zero, List.getElem?_cons_succ, List.nil_append, List.cons_append, Option.map_some, Option.map_none, Option.bind_some, List.set_cons_zero, List.set_cons_succ, List.set_nil, fz_int, fz_bl, fz_non, fz_tup, fz_lf, fz_lr, fz_lo, fz_on, D.scal, D.isN, Bool.and_true, Bool.true_and, Bool.and_self, Bool.not_true, Bool.not_false, if_true, if_false, Bool.false_eq_true, reduceIte, reduceCtorEq, seqD_l, seqD_t, frzS_ints, fzs_ints, List.length_map, Int.reduceLT, Int.reduceLE, Int.reduceNeg, Int.reduceToNat, Int.reduceAdd, Int.reduceSub, Int.reduceMul, Int.reducePow, decide_true, decide_false, Bool.or_true, Bool.true_or, Bool.or_false, Bool.false_or, Bool.false_and, Bool.and_false, ev_keep, roots, nD_frz]; rfl) (d := nD (x ||| k)) (evO (f := true) ?_ (evSl rfl)) rfl) (runs_rt (run1_ret (ρ1 := [some (nsD ms), some (.tup [nD f, nD r]), some (nD k), some (nD (x ||| k)), some (nD f), some (nD r)]) (by simp only [ev_slot, ev_con, ev_bin, ev_un, ev_cmp, ev_chain, ev_and, ev_or, ev_not, ev_ite, ev_idx, ev_sl, ev_fld, ev_tup, ev_lst, ev_call, ev_mk, ev_blt, ev_isi, evs_nil, evs_cons, evT_nil, evT_one, evI_lst, evI_r1, evI_r2, evI_down, evI_enum, evI_zip, binG_i, binG_l, cmpG_i, cmpG_n, cmpG_tt, cmpG_ll, len_l, len_t, int_i, int_b, tuple_l, tuple_t, list_l, list_t, binD, cmpD, unD, isiD, kdD, isK, truD, test, kept, keptS, keptI, peek, peekS, frzL, frzAt_nil, frzAt_z, frzAt_n, frzAt_s, frz_int, frz_bl, frz_non, frz_tup, frz_objn, frz_ro, frz_own, frz_fz', List.getElem?_cons_zero, List.getElem?_cons_succ, List.nil_append, List.cons_append, Option.map_some, Option.map_none, Option.bind_some, List.set_cons_zero, List.set_cons_succ, List.set_nil, fz_int, fz_bl, fz_non, fz_tup, fz_lf, fz_lr, fz_lo, fz_on, D.scal, D.isN, Bool.and_true, Bool.true_and, Bool.and_self, Bool.not_true, Bool.not_false, if_true, if_false, Bool.false_eq_true, reduceIte, reduceCtorEq, seqD_l, seqD_t, frzS_ints, fzs_ints, List.length_map, Int.reduceLT, Int.reduceLE, Int.reduceNeg, Int.reduceToNat, Int.reduceAdd, Int.reduceSub, Int.reduceMul, Int.reducePow, decide_true, decide_false, Bool.or_true, Bool.true_or, Bool.or_false, Bool.false_or, Bool.false_and, Bool.and_false, ev_keep, roots, nD_frz]) ?_)))
    · rw [ev_call, evs_cons, evs_cons, evs_nil, evSl rfl, evSl rfl]
      show (if List.all [] D.dfl then (G.call 2 (frzS [nsD ms, nD f] ++ [])).map (·, true) else none) = _
      rw [show frzS [nsD ms, nD f] ++ [] = [nsD ms, nD f] from rfl, h1]
      rfl
    · have e1 : ev G (.bin .BitAnd (.slot 3) (.un .Invert (.bin .BitOr (.slot 4) (.slot 5)))) [some (nsD ms), some (.tup [nD f, nD r]), some (nD k), some (nD (x ||| k)), some (nD f), some (nD r)] = some (nD c, true) := by
        refine ev_bin_of (x := nD (x ||| k)) (y := .int (Builtin.bitNot ((f ||| r : Nat) : Int))) (evSl rfl) (g := true) ?_ ?_
        · rw [ev_un, evO (evSl rfl) (evSl rfl)]
          rfl
        · show some (D.int (Builtin.bitAnd ((x ||| k : Nat) : Int) (Builtin.bitNot ((f ||| r : Nat) : Int)))) = _
          rw [h3]
          rfl
      rw [ev_tup, evs_cons, evs_cons, evs_nil, e1, evSl rfl]
      rfl
  · rw [h4, Bool.and_eq_true, Bool.not_eq_true', Nat.testBit_or, Nat.testBit_or, Bool.or_eq_true, Bool.or_eq_false_iff, h2]
    simp only [Bool.not_eq_true]
end
end P5

/-! M5f: pictures. -/
namespace P5
open PySem L2 Z Bt
section
variable {G : Gd} {ρ : Rho}
/-- check_picture -/
theorem check_pic_ok {P : D} {pic : List Nat} {n : Nat} (S : SeqN P pic) (hl : pic.length = n) (hs : ∀ s ∈ pic, s ≤ 2) : runD G f8 [nD n, P] = some .non := by
  obtain ⟨bd, hbd⟩ : ∃ x : Ss, x = .cons (.ite (.or (.cmp .GtE (.slot 2) (.slot 0)) (.cmp .NotIn (.slot 3) (.tup (.cons (.con (.int 0)) (.cons (.con (.int 1)) (.cons (.con (.int 2)) (.nil))))))) (.cons (.never) (.nil)) (.nil)) (.nil) := ⟨_, rfl⟩
  obtain ⟨ρ', h2, v2, v3, rfl⟩ := for_inv (bd := bindT (.tup [.name 2, .name 3])) (body := runs G bd) (items := enumD 0 (pic.map nD)) (ρ := [some (nD n), some P, none, none])
    (fun i ρ => ∃ v2 v3 : Option D, ρ = [some (nD n), some P, v2, v3]) ⟨none, none, rfl⟩ (by
      rintro i d ρ hi ⟨v2, v3, rfl⟩
      rw [enum_get, List.getElem?_map] at hi
      obtain ⟨d1, hd1, rfl⟩ := Option.map_eq_some_iff.mp hi
      obtain ⟨s, hsi, rfl⟩ := Option.map_eq_some_iff.mp hd1
      have hil : i < pic.length := (List.getElem?_eq_some_iff.mp hsi).1
      have s2 := hs s (List.mem_of_getElem? hsi)
      have e0 : (0 : Int) + (i : Int) = (i : Int) := by omega
      rw [e0]
      subst hbd
      refine ⟨[some (nD n), some P, some (nD i), some (nD s)], [some (nD n), some P, some (nD i), some (nD s)], rfl, .inl ?_, _, _, rfl⟩
      refine runs_if false (ρ1 := [some (nD n), some P, some (nD i), some (nD s)]) (by simp only [ev_slot, ev_con, ev_bin, ev_un, ev_cmp, ev_chain, ev_and, ev_or, ev_not, ev_ite, ev_idx, ev_sl, ev_fld, ev_tup, ev_lst, ev_call, ev_mk, ev_blt, ev_isi, evs_nil, evs_cons, evT_nil, evT_one, evI_lst, evI_r1, evI_r2, evI_down, evI_enum, evI_zip, binG_i, binG_l, cmpG_i, cmpG_n, cmpG_tt, cmpG_ll, len_l, len_t, int_i, int_b, tuple_l, tuple_t, list_l, list_t, binD, cmpD, unD, isiD, kdD, isK, truD, test, kept, keptS, keptI, peek, peekS, frzL, frzAt_nil, frzAt_z, frzAt_n, frzAt_s, frz_int, frz_bl, frz_non, frz_tup, frz_objn, frz_ro, frz_own, frz_fz', List.getElem?_cons_zero, List.getElem?_cons_succ, List.nil_append, List.cons_append, Option.map_some, Option.map_none, Option.bind_some, List.set_cons_zero, List.set_cons_succ, List.set_nil, fz_int, fz_bl, fz_non, fz_tup, fz_lf, fz_lr, fz_lo, fz_on, D.scal, D.isN, Bool.and_true, Bool.true_and, Bool.and_self, Bool.not_true, Bool.not_false, if_true, if_false, Bool.false_eq_true, reduceIte, reduceCtorEq, seqD_l, seqD_t, frzS_ints, fzs_ints, List.length_map, Int.reduceLT, Int.reduceLE, Int.reduceNeg, Int.reduceToNat, Int.reduceAdd, Int.reduceSub, Int.reduceMul, Int.reducePow, decide_true, decide_false, Bool.or_true, Bool.true_or, Bool.or_false, Bool.false_or, Bool.false_and, Bool.and_false, ev_keep, roots, nD_frz, S.fr]) (test_of (evOrF (evCmp (evSl rfl) (evSl rfl) (k := false) ?_) (k := false) (g := true) ?_)) runs_nil runs_nil
      · show some (decide ((n : Int) ≤ (i : Int))) = _
        rw [decide_eq_false (by omega)]
      · have et : ev G (.tup (.cons (.con (.int 0)) (.cons (.con (.int 1)) (.cons (.con (.int 2)) (.nil))))) [some (nD n), some P, some (nD i), some (nD s)] = some (.tup [.int 0, .int 1, .int 2], true) := by
          rw [ev_tup, evs_cons, evs_cons, evs_cons, evs_nil, evCon rfl, evCon rfl, evCon rfl]
          rfl
        rw [ev_cmp, evSl rfl, et]
        have : s = 0 ∨ s = 1 ∨ s = 2 := by omega
        rcases this with rfl | rfl | rfl <;> rfl)
  refine runD_nx rfl (ρ := [some (nD n), some P, v2, v3]) ?_
  show runs G b8 [some (nD n), some P, none, none] = _
  unfold b8
  refine runs_nx (run1_for (ρ1 := [some (nD n), some P, none, none]) (by simp only [ev_slot, ev_con, ev_bin, ev_un, ev_cmp, ev_chain, ev_and, ev_or, ev_not, ev_ite, ev_idx, ev_sl, ev_fld, ev_tup, ev_lst, ev_call, ev_mk, ev_blt, ev_isi, evs_nil, evs_cons, evT_nil, evT_one, evI_lst, evI_r1, evI_r2, evI_down, evI_enum, evI_zip, binG_i, binG_l, cmpG_i, cmpG_n, cmpG_tt, cmpG_ll, len_l, len_t, int_i, int_b, tuple_l, tuple_t, list_l, list_t, binD, cmpD, unD, isiD, kdD, isK, truD, test, kept, keptS, keptI, peek, peekS, frzL, frzAt_nil, frzAt_z, frzAt_n, frzAt_s, frz_int, frz_bl, frz_non, frz_tup, frz_objn, frz_ro, frz_own, frz_fz', List.getElem?_cons_zero, List.getElem?_cons_succ, List.nil_append, List.cons_append, Option.map_some, Option.map_none, Option.bind_some, List.set_cons_zero, List.set_cons_succ, List.set_nil, fz_int, fz_bl, fz_non, fz_tup, fz_lf, fz_lr, fz_lo, fz_on, D.scal, D.isN, Bool.and_true, Bool.true_and, Bool.and_self, Bool.not_true, Bool.not_false, if_true, if_false, Bool.false_eq_true, reduceIte, reduceCtorEq, seqD_l, seqD_t, frzS_ints, fzs_ints, List.length_map, Int.reduceLT, Int.reduceLE, Int.reduceNeg, Int.reduceToNat, Int.reduceAdd, Int.reduceSub, Int.reduceMul, Int.reducePow, decide_true, decide_false, Bool.or_true, Bool.true_or, Bool.or_false, Bool.false_or, Bool.false_and, Bool.and_false, ev_keep, roots, S.fr]) (items := enumD 0 (pic.map nD)) ?_ (by rw [← hbd]; exact h2)) (runs_if false (ρ1 := [some (nD n), some P, v2, v3]) (by simp only [ev_slot, ev_con, ev_bin, ev_un, ev_cmp, ev_chain, ev_and, ev_or, ev_not, ev_ite, ev_idx, ev_sl, ev_fld, ev_tup, ev_lst, ev_call, ev_mk, ev_blt, ev_isi, evs_nil, evs_cons, evT_nil, evT_one, evI_lst, evI_r1, evI_r2, evI_down, evI_enum, evI_zip, binG_i, binG_l, cmpG_i, cmpG_n, cmpG_tt, cmpG_ll, len_l, len_t, int_i, int_b, tuple_l, tuple_t, list_l, list_t, binD, cmpD, unD, isiD, kdD, isK, truD, test, kept, keptS, keptI, peek, peekS, frzL, frzAt_nil, frzAt_z, frzAt_n, frzAt_s, frz_int, frz_bl, frz_non, frz_tup, frz_objn, frz_ro, frz_own, frz_fz', List.getElem?_cons_zero, List.getElem?_cons_succ, List.nil_append, List.cons_append, Option.map_some, Option.map_none, Option.bind_some, List.set_cons_zero, List.set_cons_succ, List.set_nil, fz_int, fz_bl, fz_non, fz_tup, fz_lf, fz_lr, fz_lo, fz_on, D.scal, D.isN, Bool.and_true, Bool.true_and, Bool.and_self, Bool.not_true, Bool.not_false, if_true, if_false, Bool.false_eq_true, reduceIte, reduceCtorEq, seqD_l, seqD_t, frzS_ints, fzs_ints, List.length_map, Int.reduceLT, Int.reduceLE, Int.reduceNeg, Int.reduceToNat, Int.reduceAdd, Int.reduceSub, Int.reduceMul, Int.reducePow, decide_true, decide_false, Bool.or_true, Bool.true_or, Bool.or_false, Bool.false_or, Bool.false_and, Bool.and_false, ev_keep, roots, nD_frz, S.fr]) (test_of (evCmp (evLen S (evSl rfl)) (evSl rfl) (k := false) ?_)) runs_nil runs_nil)
  · rw [evI_enum, evSl rfl, S.fz]
    show (seqD (frz P)).map _ = _
    rw [S.fr, S.seq]
    rfl
  · show some (decide ((pic.length : Int) < (n : Int))) = _
    rw [decide_eq_false (by omega)]
/-- Scene(web, picture) -/
theorem scene_init {P : D} {pic : List Nat} {n : Nat} {ls : List (Nat × Nat)} {ms : List Nat} {nr : List (List Nat)} (S : SeqN P pic) (hc : G.call 8 [nD n, P] = some .non) (a : Addr) : initD G 1 f6 a [webD n ls ms nr, P] = some (scD (webD n ls ms nr) pic) := by
  generalize hW : webD n ls ms nr = W
  have fW : frz W = W := by rw [← hW]; rfl
  have fz : W.fz = true := by rw [← hW]; rfl
  have e0 : ev G (.fld (.slot 1) 0) [some (D.obj (some a) 1 [] []), some W, some P] = some (nD n, true) := by rw [ev_fld, ev_slot, ← hW]; rfl
  refine init_of (ρ := [some (.obj (some a) 1 [4, 5] [W, nsD pic]), some W, some P]) rfl ?_ rfl
  show runs G b6 [some (D.obj (some a) 1 [] []), some W, some P] = _
  unfold b6
  refine runs_nx (run1_drop (ρ1 := [some (D.obj (some a) 1 [] []), some W, some P]) (d := (.non, true)) (by simp only [ev_slot, ev_con, ev_bin, ev_un, ev_cmp, ev_chain, ev_and, ev_or, ev_not, ev_ite, ev_idx, ev_sl, ev_fld, ev_tup, ev_lst, ev_call, ev_mk, ev_blt, ev_isi, evs_nil, evs_cons, evT_nil, evT_one, evI_lst, evI_r1, evI_r2, evI_down, evI_enum, evI_zip, binG_i, binG_l, cmpG_i, cmpG_n, cmpG_tt, cmpG_ll, len_l, len_t, int_i, int_b, tuple_l, tuple_t, list_l, list_t, binD, cmpD, unD, isiD, kdD, isK, truD, test, kept, keptS, keptI, peek, peekS, frzL, frzAt_nil, frzAt_z, frzAt_n, frzAt_s, frz_int, frz_bl, frz_non, frz_tup, frz_objn, frz_ro, frz_own, frz_fz', List.getElem?_cons_zero, List.getElem?_cons_succ, List.nil_append, List.cons_append, Option.map_some, Option.map_none, Option.bind_some, List.set_cons_zero, List.set_cons_succ, List.set_nil, fz_int, fz_bl, fz_non, fz_tup, fz_lf, fz_lr, fz_lo, fz_on, D.scal, D.isN, Bool.and_true, Bool.true_and, Bool.and_self, Bool.not_true, Bool.not_false, if_true, if_false, Bool.false_eq_true, reduceIte, reduceCtorEq, seqD_l, seqD_t, frzS_ints, fzs_ints, List.length_map, Int.reduceLT, Int.reduceLE, Int.reduceNeg, Int.reduceToNat, Int.reduceAdd, Int.reduceSub, Int.reduceMul, Int.reducePow, decide_true, decide_false, Bool.or_true, Bool.true_or, Bool.or_false, Bool.false_or, Bool.false_and, Bool.and_false, ev_keep, roots, fW, S.fr]) ?_) (runs_nx (run1_fld (ρ1 := [some (D.obj (some a) 1 [] []), some W, some P]) (a := a) (c := 1) (ks := []) (ds := []) (ks' := [4]) (ds' := [W]) (d := W) (by simp only [ev_slot, ev_con, ev_bin, ev_un, ev_cmp, ev_chain, ev_and, ev_or, ev_not, ev_ite, ev_idx, ev_sl, ev_fld, ev_tup, ev_lst, ev_call, ev_mk, ev_blt, ev_isi, evs_nil, evs_cons, evT_nil, evT_one, evI_lst, evI_r1, evI_r2, evI_down, evI_enum, evI_zip, binG_i, binG_l, cmpG_i, cmpG_n, cmpG_tt, cmpG_ll, len_l, len_t, int_i, int_b, tuple_l, tuple_t, list_l, list_t, binD, cmpD, unD, isiD, kdD, isK, truD, test, kept, keptS, keptI, peek, peekS, frzL, frzAt_nil, frzAt_z, frzAt_n, frzAt_s, frz_int, frz_bl, frz_non, frz_tup, frz_objn, frz_ro, frz_own, frz_fz', List.getElem?_cons_zero, List.getElem?_cons_succ, List.nil_append, List.cons_append, Option.map_some, Option.map_none, Option.bind_some, List.set_cons_zero, List.set_cons_succ, List.set_nil, fz_int, fz_bl, fz_non, fz_tup, fz_lf, fz_lr, fz_lo, fz_on, D.scal, D.isN, Bool.and_true, Bool.true_and, Bool.and_self, Bool.not_true, Bool.not_false, if_true, if_false, Bool.false_eq_true, reduceIte, reduceCtorEq, seqD_l, seqD_t, frzS_ints, fzs_ints, List.length_map, Int.reduceLT, Int.reduceLE, Int.reduceNeg, Int.reduceToNat, Int.reduceAdd, Int.reduceSub, Int.reduceMul, Int.reducePow, decide_true, decide_false, Bool.or_true, Bool.true_or, Bool.or_false, Bool.false_or, Bool.false_and, Bool.and_false, ev_keep, roots, fW, S.fr]) (by rw [evSl rfl, fz]) rfl (by rw [fW]; rfl) (by decide)) (runs_nx (run1_fld (ρ1 := [some (D.obj (some a) 1 [4] [W]), some W, some P]) (a := a) (c := 1) (ks := [4]) (ds := [W]) (ks' := [4, 5]) (ds' := [W, nsD pic]) (d := nsD pic) (by simp only [ev_slot, ev_con, ev_bin, ev_un, ev_cmp, ev_chain, ev_and, ev_or, ev_not, ev_ite, ev_idx, ev_sl, ev_fld, ev_tup, ev_lst, ev_call, ev_mk, ev_blt, ev_isi, evs_nil, evs_cons, evT_nil, evT_one, evI_lst, evI_r1, evI_r2, evI_down, evI_enum, evI_zip, binG_i, binG_l, cmpG_i, cmpG_n, cmpG_tt, cmpG_ll, len_l, len_t, int_i, int_b, tuple_l, tuple_t, list_l, list_t, binD, cmpD, unD, isiD, kdD, isK, truD, test, kept, keptS, keptI, peek, peekS, frzL, frzAt_nil, frzAt_z, frzAt_n, frzAt_s, frz_int, frz_bl, frz_non, frz_tup, frz_objn, frz_ro, frz_own, frz_fz', List.getElem?_cons_zero, List.getElem?_cons_succ, List.nil_append, List.cons_append, Option.map_some, Option.map_none, Option.bind_some, List.set_cons_zero, List.set_cons_succ, List.set_nil, fz_int, fz_bl, fz_non, fz_tup, fz_lf, fz_lr, fz_lo, fz_on, D.scal, D.isN, Bool.and_true, Bool.true_and, Bool.and_self, Bool.not_true, Bool.not_false, if_true, if_false, Bool.false_eq_true, reduceIte, reduceCtorEq, seqD_l, seqD_t, frzS_ints, fzs_ints, List.length_map, Int.reduceLT, Int.reduceLE, Int.reduceNeg, Int.reduceToNat, Int.reduceAdd, Int.reduceSub, Int.reduceMul, Int.reducePow, decide_true, decide_false, Bool.or_true, Bool.true_or, Bool.or_false, Bool.false_or, Bool.false_and, Bool.and_false, ev_keep, roots, fW, S.fr]) (evTup S (evSl rfl)) rfl rfl (by show 1 < 1000; omega)) runs_nil))
  rw [ev_call, evs_cons, evs_cons, evs_nil, e0, evSl rfl, S.fz]
  show (if List.all [] D.dfl then (G.call 8 (frzS [nD n, P] ++ [])).map (·, true) else none) = _
  rw [show frzS [nD n, P] ++ [] = [nD n, P] by rw [List.append_nil, frzS_cons', frzS_cons', S.fr]; rfl, hc]
  rfl
/-- scene_of_masks -/
theorem scene_of_ok {n f r : Nat} (hn : n ≤ 1000) {ls : List (Nat × Nat)} {ms : List Nat} {nr : List (List Nat)}
    (hm : ∀ pic : List Nat, pic.length = n → (∀ s ∈ pic, s ≤ 2) → G.new 1 [webD n ls ms nr, .lst .fz (pic.map nD)] = some (scD (webD n ls ms nr) pic)) (hd : ∀ p, f.testBit p = true → ¬ r.testBit p = true) :
    runD G f10 [webD n ls ms nr, .tup [nD f, nD r]] = some (scD (webD n ls ms nr) ((List.range n).map (stOf f r))) := by
  have hm' := hm ((List.range n).map (stOf f r)) (by simp) (fun s hs => by
    obtain ⟨p, _, rfl⟩ := List.mem_map.mp hs
    unfold stOf
    have := hd p
    by_cases c : f.testBit p = true <;> by_cases c2 : r.testBit p = true <;> simp [c, c2] at this ⊢)
  revert hm'
  generalize hW : webD n ls ms nr = W
  intro hm'
  have fW : frz W = W := by rw [← hW]; rfl
  have fz : W.fz = true := by rw [← hW]; rfl
  have e0 : ∀ rest, ev G (.fld (.slot 0) 0) (some W :: rest) = some (nD n, true) := fun rest => by rw [ev_fld, ev_slot, ← hW]; rfl
  refine runD_rt rfl ?_
  show runs G b10 [some W, some (.tup [nD f, nD r]), none, none, none, none] = _
  unfold b10
  refine runs_nx (run1_asg (ρ1 := [some W, some (.tup [nD f, nD r]), none, none, none, none]) (by simp only [ev_slot, ev_con, ev_bin, ev_un, ev_cmp, ev_chain, ev_and, ev_or, ev_not, ev_ite, ev_idx, ev_sl, ev_fld, ev_tup, ev_lst, ev_call, ev_mk, ev_blt, ev_isi, evs_nil, evs_cons, evT_nil, evT_one, evI_lst, evI_r1, evI_r2, evI_down, evI_enum, evI_zip, binG_i, binG_l, cmpG_i, cmpG_n, cmpG_tt, cmpG_ll, len_l, len_t, int_i, int_b, tuple_l, tuple_t, list_l, list_t, binD, cmpD, unD, isiD, kdD, isK, truD, test, kept, keptS, keptI, peek, peekS, frzL, frzAt_nil, frzAt_z, frzAt_n, frzAt_s, frz_int, frz_bl, frz_non, frz_tup, frz_objn, frz_ro, frz_own, frz_fz', List.getElem?_cons_zero, List.getElem?_cons_succ, List.nil_append, List.cons_append, Option.map_some, Option.map_none, Option.bind_some, List.set_cons_zero, List.set_cons_succ, List.set_nil, fz_int, fz_bl, fz_non, fz_tup, fz_lf, fz_lr, fz_lo, fz_on, D.scal, D.isN, Bool.and_true, Bool.true_and, Bool.and_self, Bool.not_true, Bool.not_false, if_true, if_false, Bool.false_eq_true, reduceIte, reduceCtorEq, seqD_l, seqD_t, frzS_ints, fzs_ints, List.length_map, Int.reduceLT, Int.reduceLE, Int.reduceNeg, Int.reduceToNat, Int.reduceAdd, Int.reduceSub, Int.reduceMul, Int.reducePow, decide_true, decide_false, Bool.or_true, Bool.true_or, Bool.or_false, Bool.false_or, Bool.false_and, Bool.and_false, ev_keep, roots, nD_frz]) (d := .tup [nD f, nD r]) (evSl rfl) rfl) (runs_nx (run1_asg (ρ1 := [some W, some (.tup [nD f, nD r]), none, some (nD f), some (nD r), none]) (by simp only [ev_slot, ev_con, ev_bin, ev_un, ev_cmp, ev_chain, ev_and, ev_or, ev_not, ev_ite, ev_idx, ev_sl, ev_fld, ev_tup, ev_lst, ev_call, ev_mk, ev_blt, ev_isi, evs_nil, evs_cons, evT_nil, evT_one, evI_lst, evI_r1, evI_r2, evI_down, evI_enum, evI_zip, binG_i, binG_l, cmpG_i, cmpG_n, cmpG_tt, cmpG_ll, len_l, len_t, int_i, int_b, tuple_l, tuple_t, list_l, list_t, binD, cmpD, unD, isiD, kdD, isK, truD, test, kept, keptS, keptI, peek, peekS, frzL, frzAt_nil, frzAt_z, frzAt_n, frzAt_s, frz_int, frz_bl, frz_non, frz_tup, frz_objn, frz_ro, frz_own, frz_fz', List.getElem?_cons_zero, List.getElem?_cons_succ, List.nil_append, List.cons_append, Option.map_some, Option.map_none, Option.bind_some, List.set_cons_zero, List.set_cons_succ, List.set_nil, fz_int, fz_bl, fz_non, fz_tup, fz_lf, fz_lr, fz_lo, fz_on, D.scal, D.isN, Bool.and_true, Bool.true_and, Bool.and_self, Bool.not_true, Bool.not_false, if_true, if_false, Bool.false_eq_true, reduceIte, reduceCtorEq, seqD_l, seqD_t, frzS_ints, fzs_ints, List.length_map, Int.reduceLT, Int.reduceLE, Int.reduceNeg, Int.reduceToNat, Int.reduceAdd, Int.reduceSub, Int.reduceMul, Int.reducePow, decide_true, decide_false, Bool.or_true, Bool.true_or, Bool.or_false, Bool.false_or, Bool.false_and, Bool.and_false, ev_keep, roots, fW, nD_frz]; try rfl) (d := .lst .own (((List.range n).map (stOf f r)).map nD)) ?_ rfl) (runs_rt (run1_ret (ρ1 := [some W, some (.tup [nD f, nD r]), some (.lst .fz (((List.range n).map (stOf f r)).map nD)), some (nD f), some (nD r), none]) ?_ ?_)))
  · refine ev_lc (items := rngD 0 n) ?_ (by rw [rngD_len]; omega) ?_
    · rw [evI_r1, e0]
      show (if rngOk 0 (n : Int) then some (rngD 0 (n : Int).toNat) else none) = _
      rw [show rngOk 0 (n : Int) = true by unfold rngOk; simp; omega]
      rfl
    · rw [rngD_map, List.map_map]
      refine compD_all _ _ fun p hp => ?_
      have e1 : (0 : Int) + (p : Int) = (p : Int) := by omega
      rw [e1]
      refine lcF_yes (ρ' := [some W, some (.tup [nD f, nD r]), none, some (nD f), some (nD r), some (nD p)]) rfl evT_nil ?_
      refine ev_bin_of (f := true) (g := true) (x := nD (if f.testBit p then 1 else 0)) (y := nD (2 * (if r.testBit p then 1 else 0))) (evBit rfl rfl) (ev_bin_of (f := true) (g := true) (x := .int 2) (evCon rfl) (evBit rfl rfl) ?_) ?_
      · by_cases c2 : r.testBit p = true
        · rw [if_pos c2]; rfl
        · rw [if_neg c2]; rfl
      · show some (D.int (((if f.testBit p then 1 else 0 : Nat) : Int) + ((2 * (if r.testBit p then 1 else 0) : Nat) : Int))) = some (D.int ((stOf f r p : Nat) : Int))
        unfold stOf
        rw [Int.natCast_add]
  · simp only [ev_slot, ev_con, ev_bin, ev_un, ev_cmp, ev_chain, ev_and, ev_or, ev_not, ev_ite, ev_idx, ev_sl, ev_fld, ev_tup, ev_lst, ev_call, ev_mk, ev_blt, ev_isi, evs_nil, evs_cons, evT_nil, evT_one, evI_lst, evI_r1, evI_r2, evI_down, evI_enum, evI_zip, binG_i, binG_l, cmpG_i, cmpG_n, cmpG_tt, cmpG_ll, len_l, len_t, int_i, int_b, tuple_l, tuple_t, list_l, list_t, binD, cmpD, unD, isiD, kdD, isK, truD, test, kept, keptS, keptI, peek, peekS, frzL, frzAt_nil, frzAt_z, frzAt_n, frzAt_s, frz_int, frz_bl, frz_non, frz_tup, frz_objn, frz_ro, frz_own, frz_fz', List.getElem?_cons_zero, List.getElem?_cons_succ, List.nil_append, List.cons_append, Option.map_some, Option.map_none, Option.bind_some, List.set_cons_zero, List.set_cons_succ, List.set_nil, fz_int, fz_bl, fz_non, fz_tup, fz_lf, fz_lr, fz_lo, fz_on, D.scal, D.isN, Bool.and_true, Bool.true_and, Bool.and_self, Bool.not_true, Bool.not_false, if_true, if_false, Bool.false_eq_true, reduceIte, reduceCtorEq, seqD_l, seqD_t, frzS_ints, fzs_ints, List.length_map, Int.reduceLT, Int.reduceLE, Int.reduceNeg, Int.reduceToNat, Int.reduceAdd, Int.reduceSub, Int.reduceMul, Int.reducePow, decide_true, decide_false, Bool.or_true, Bool.true_or, Bool.or_false, Bool.false_or, Bool.false_and, Bool.and_false, ev_keep, roots, fW, nD_frz, frzS_n]
  · rw [ev_mk, evs_cons, evs_cons, evs_nil, evSl rfl, evSl rfl, fz]
    show (if List.all [] D.dfl then (G.new 1 (frzS [W, .lst .fz (((List.range n).map (stOf f r)).map nD)] ++ [])).map (·, true) else none) = _
    rw [show frzS [W, .lst .fz (((List.range n).map (stOf f r)).map nD)] ++ [] = [W, .lst .fz (((List.range n).map (stOf f r)).map nD)] by rw [List.append_nil, frzS_cons', frzS_cons', fW]; show [W, D.lst .fz (frzS _)] = _; rw [frzS_n], hm']
    rfl
end
end P5

/-! M5g: webs. -/
namespace P5
open PySem L2 Z Bt
section
variable {G : Gd} {ρ : Rho}
/-- check_lines -/
theorem check_lines_ok {P : D} {ls : List (Nat × Nat)} {n : Nat} (S : SeqL P ls) (hl : ∀ p ∈ ls, p.1 < n ∧ p.2 < n ∧ p.1 ≠ p.2) : runD G f5 [nD n, P] = some .non := by
  obtain ⟨bd, hbd⟩ : ∃ x : Ss, x = .cons (.ite (.or (.not (.and (.chain .LtE .Lt (.con (.int 0)) (.slot 3) (.slot 0)) (.chain .LtE .Lt (.con (.int 0)) (.slot 4) (.slot 0)))) (.cmp .Eq (.slot 3) (.slot 4))) (.cons (.never) (.nil)) (.nil)) (.nil) := ⟨_, rfl⟩
  obtain ⟨ρ', h2, v2, v3, v4, rfl⟩ := for_inv (bd := bindT (.tup [.name 2, .tup [.name 3, .name 4]])) (body := runs G bd) (items := enumD 0 (ls.map lineD)) (ρ := [some (nD n), some P, none, none, none])
    (fun i ρ => ∃ v2 v3 v4 : Option D, ρ = [some (nD n), some P, v2, v3, v4]) ⟨none, none, none, rfl⟩ (by
      rintro i d ρ hi ⟨v2, v3, v4, rfl⟩
      rw [enum_get, List.getElem?_map] at hi
      obtain ⟨d1, hd1, rfl⟩ := Option.map_eq_some_iff.mp hi
      obtain ⟨⟨a, b⟩, hsi, rfl⟩ := Option.map_eq_some_iff.mp hd1
      obtain ⟨h1, h2, h3⟩ := hl _ (List.mem_of_getElem? hsi)
      dsimp only at h1 h2 h3
      subst hbd
      refine ⟨[some (nD n), some P, some (.int (0 + (i : Nat))), some (nD a), some (nD b)], [some (nD n), some P, some (.int (0 + (i : Nat))), some (nD a), some (nD b)], rfl, .inl ?_, _, _, _, rfl⟩
      refine runs_if false (ρ1 := [some (nD n), some P, some (.int (0 + (i : Nat))), some (nD a), some (nD b)]) (by simp only [ev_slot, ev_con, ev_bin, ev_un, ev_cmp, ev_chain, ev_and, ev_or, ev_not, ev_ite, ev_idx, ev_sl, ev_fld, ev_tup, ev_lst, ev_call, ev_mk, ev_blt, ev_isi, evs_nil, evs_cons, evT_nil, evT_one, evI_lst, evI_r1, evI_r2, evI_down, evI_enum, evI_zip, binG_i, binG_l, cmpG_i, cmpG_n, cmpG_tt, cmpG_ll, len_l, len_t, int_i, int_b, tuple_l, tuple_t, list_l, list_t, binD, cmpD, unD, isiD, kdD, isK, truD, test, kept, keptS, keptI, peek, peekS, frzL, frzAt_nil, frzAt_z, frzAt_n, frzAt_s, frz_int, frz_bl, frz_non, frz_tup, frz_objn, frz_ro, frz_own, frz_fz', List.getElem?_cons_zero, List.getElem?_cons_succ, List.nil_append, List.cons_append, Option.map_some, Option.map_none, Option.bind_some, List.set_cons_zero, List.set_cons_succ, List.set_nil, fz_int, fz_bl, fz_non, fz_tup, fz_lf, fz_lr, fz_lo, fz_on, D.scal, D.isN, Bool.and_true, Bool.true_and, Bool.and_self, Bool.not_true, Bool.not_false, if_true, if_false, Bool.false_eq_true, reduceIte, reduceCtorEq, seqD_l, seqD_t, frzS_ints, fzs_ints, List.length_map, Int.reduceLT, Int.reduceLE, Int.reduceNeg, Int.reduceToNat, Int.reduceAdd, Int.reduceSub, Int.reduceMul, Int.reducePow, decide_true, decide_false, Bool.or_true, Bool.true_or, Bool.or_false, Bool.false_or, Bool.false_and, Bool.and_false, ev_keep, roots, nD_frz, S.fr]) (test_of (evOrF (f := true) ?_ (evCmp (evSl rfl) (evSl rfl) (k := false) ?_))) runs_nil runs_nil
      · have := evNot (evAnd (evCh (x := 0) (evCon rfl) (evSl (G := G) (ρ := [some (nD n), some P, some (.int (0 + (i : Nat))), some (nD a), some (nD b)]) (i := 3) rfl) (evSl (i := 0) rfl)) (evCh (x := 0) (evCon rfl) (evSl (i := 4) rfl) (evSl (i := 0) rfl)))
        rw [decide_eq_true (by omega : (0 : Int) ≤ (a : Int)), decide_eq_true (by omega : (0 : Int) ≤ (b : Int)), decide_eq_true (by omega : (a : Int) < (n : Int)), decide_eq_true (by omega : (b : Int) < (n : Int))] at this
        exact this
      · show some (((a : Int)) == ((b : Int))) = _
        rw [show (((a : Int)) == ((b : Int))) = false by rw [beq_eq_false_iff_ne]; omega])
  refine runD_nx rfl (ρ := [some (nD n), some P, v2, v3, v4]) ?_
  show runs G b5 [some (nD n), some P, none, none, none] = _
  unfold b5
  refine runs_nx (run1_for (ρ1 := [some (nD n), some P, none, none, none]) (by simp only [ev_slot, ev_con, ev_bin, ev_un, ev_cmp, ev_chain, ev_and, ev_or, ev_not, ev_ite, ev_idx, ev_sl, ev_fld, ev_tup, ev_lst, ev_call, ev_mk, ev_blt, ev_isi, evs_nil, evs_cons, evT_nil, evT_one, evI_lst, evI_r1, evI_r2, evI_down, evI_enum, evI_zip, binG_i, binG_l, cmpG_i, cmpG_n, cmpG_tt, cmpG_ll, len_l, len_t, int_i, int_b, tuple_l, tuple_t, list_l, list_t, binD, cmpD, unD, isiD, kdD, isK, truD, test, kept, keptS, keptI, peek, peekS, frzL, frzAt_nil, frzAt_z, frzAt_n, frzAt_s, frz_int, frz_bl, frz_non, frz_tup, frz_objn, frz_ro, frz_own, frz_fz', List.getElem?_cons_zero, List.getElem?_cons_succ, List.nil_append, List.cons_append, Option.map_some, Option.map_none, Option.bind_some, List.set_cons_zero, List.set_cons_succ, List.set_nil, fz_int, fz_bl, fz_non, fz_tup, fz_lf, fz_lr, fz_lo, fz_on, D.scal, D.isN, Bool.and_true, Bool.true_and, Bool.and_self, Bool.not_true, Bool.not_false, if_true, if_false, Bool.false_eq_true, reduceIte, reduceCtorEq, seqD_l, seqD_t, frzS_ints, fzs_ints, List.length_map, Int.reduceLT, Int.reduceLE, Int.reduceNeg, Int.reduceToNat, Int.reduceAdd, Int.reduceSub, Int.reduceMul, Int.reducePow, decide_true, decide_false, Bool.or_true, Bool.true_or, Bool.or_false, Bool.false_or, Bool.false_and, Bool.and_false, ev_keep, roots, S.fr]) (items := enumD 0 (ls.map lineD)) ?_ (by rw [← hbd]; exact h2)) runs_nil
  rw [evI_enum, evSl rfl, S.fz]
  show (seqD (frz P)).map _ = _
  rw [S.fr, S.seq]
  rfl
structure WebOk (n : Nat) (ls : List (Nat × Nat)) (ms : List Nat) (nr : List (List Nat)) : Prop where
  lines : Lines n ls
  masks : Masks n ls ms
  nlen : nr.length = n
  near : ∀ a l, nr[a]? = some l → l.Pairwise (· < ·) ∧ ∀ b, b ∈ l ↔ Adj ls a b
theorem mask_lt {n : Nat} {ls : List (Nat × Nat)} {ms : List Nat} (h : Lines n ls) (M : Masks n ls ms) (a : Nat) : ms.getD a 0 < 2 ^ n := by
  refine Nat.lt_pow_two_of_testBit _ fun b hb => ?_
  by_cases c : (ms.getD a 0).testBit b = true
  · have := adj_lt h ((M.bit a b).mp c)
    omega
  · simpa using c
/-- Web(size, lines) -/
theorem web_init (hp : Places G) {P : D} {ls : List (Nat × Nat)} {n : Nat} (hn : n ≤ 60) (S : SeqL P ls) (hl : Lines n ls) (h64 : ls.length < 64) (hc : G.call 5 [nD n, P] = some .non)
    (hm : ∃ ms, G.call 1 [nD n, .tup (ls.map lineD)] = some (nsD ms) ∧ Masks n ls ms) : ∃ ms nr, WebOk n ls ms nr ∧ ∀ a, initD G 0 f3 a [nD n, P] = some (webD n ls ms nr) := by
  obtain ⟨ms, h1, h2⟩ := hm
  have mlt : ∀ m ∈ ms, m < 2 ^ n := fun m hm => by
    obtain ⟨i, hi, e⟩ := List.getElem_of_mem hm
    have := mask_lt hl h2 i
    rw [List.getD_eq_getElem?_getD, List.getElem?_eq_getElem hi] at this
    rw [← e]
    exact this
  have ex : ∀ m, m ∈ ms → ∃ l : List Nat, G.call 0 [nD m] = some (nsD l) ∧ l.Pairwise (· < ·) ∧ ∀ i, i ∈ l ↔ m.testBit i = true := fun m hm => hp m n (mlt m hm) (by omega)
  have : ∃ pl : Nat → List Nat, ∀ m ∈ ms, G.call 0 [nD m] = some (nsD (pl m)) ∧ (pl m).Pairwise (· < ·) ∧ ∀ i, i ∈ pl m ↔ m.testBit i = true := by
    classical
    exact ⟨fun m => if h : m ∈ ms then (ex m h).choose else [], fun m h => by
      have e : (fun m => if h : m ∈ ms then (ex m h).choose else []) m = (ex m h).choose := dif_pos h
      rw [e]
      exact (ex m h).choose_spec⟩
  obtain ⟨pl, hpl⟩ := this
  refine ⟨ms, ms.map pl, ⟨hl, h2, by rw [List.length_map, h2.len], fun a l h => ?_⟩, fun a => ?_⟩
  · rw [List.getElem?_map] at h
    obtain ⟨m, hm, rfl⟩ := Option.map_eq_some_iff.mp h
    obtain ⟨_, q1, q2⟩ := hpl m (List.mem_of_getElem? hm)
    refine ⟨q1, fun b => ?_⟩
    rw [q2, ← h2.bit a b, List.getD_eq_getElem?_getD, hm]
    rfl
  · refine init_of (ρ := [some (.obj (some a) 0 [0, 1, 2, 3] [nD n, .tup (ls.map lineD), .tup (ms.map nD), .tup ((ms.map pl).map nsD)]), some (nD n), some P, none, none, none]) rfl ?_ rfl
    show runs G b3 [some (D.obj (some a) 0 [] []), some (nD n), some P, none, none, none] = _
    unfold b3
    refine runs_nx (run1_drop (ρ1 := [some (D.obj (some a) 0 [] []), some (nD n), some P, none, none, none]) (d := (.non, true)) (by simp only [ev_slot, ev_con, ev_bin, ev_un, ev_cmp, ev_chain, ev_and, ev_or, ev_not, ev_ite, ev_idx, ev_sl, ev_fld, ev_tup, ev_lst, ev_call, ev_mk, ev_blt, ev_isi, evs_nil, evs_cons, evT_nil, evT_one, evI_lst, evI_r1, evI_r2, evI_down, evI_enum, evI_zip, binG_i, binG_l, cmpG_i, cmpG_n, cmpG_tt, cmpG_ll, len_l, len_t, int_i, int_b, tuple_l, tuple_t, list_l, list_t, binD, cmpD, unD, isiD, kdD, isK, truD, test, kept, keptS, keptI, peek, peekS, frzL, frzAt_nil, frzAt_z, frzAt_n, frzAt_s, frz_int, frz_bl, frz_non, frz_tup, frz_objn, frz_ro, frz_own, frz_fz', List.getElem?_cons_zero, List.getElem?_cons_succ, List.nil_append, List.cons_append, Option.map_some, Option.map_none, Option.bind_some, List.set_cons_zero, List.set_cons_succ, List.set_nil, fz_int, fz_bl, fz_non, fz_tup, fz_lf, fz_lr, fz_lo, fz_on, D.scal, D.isN, Bool.and_true, Bool.true_and, Bool.and_self, Bool.not_true, Bool.not_false, if_true, if_false, Bool.false_eq_true, reduceIte, reduceCtorEq, seqD_l, seqD_t, frzS_ints, fzs_ints, List.length_map, Int.reduceLT, Int.reduceLE, Int.reduceNeg, Int.reduceToNat, Int.reduceAdd, Int.reduceSub, Int.reduceMul, Int.reducePow, decide_true, decide_false, Bool.or_true, Bool.true_or, Bool.or_false, Bool.false_or, Bool.false_and, Bool.and_false, ev_keep, roots, nD_frz, S.fr]) ?_) (runs_nx (run1_fld (ρ1 := [some (D.obj (some a) 0 [] []), some (nD n), some P, none, none, none]) (a := a) (c := 0) (ks := []) (ds := []) (ks' := [0]) (ds' := [nD n]) (d := nD n) (by simp only [ev_slot, ev_con, ev_bin, ev_un, ev_cmp, ev_chain, ev_and, ev_or, ev_not, ev_ite, ev_idx, ev_sl, ev_fld, ev_tup, ev_lst, ev_call, ev_mk, ev_blt, ev_isi, evs_nil, evs_cons, evT_nil, evT_one, evI_lst, evI_r1, evI_r2, evI_down, evI_enum, evI_zip, binG_i, binG_l, cmpG_i, cmpG_n, cmpG_tt, cmpG_ll, len_l, len_t, int_i, int_b, tuple_l, tuple_t, list_l, list_t, binD, cmpD, unD, isiD, kdD, isK, truD, test, kept, keptS, keptI, peek, peekS, frzL, frzAt_nil, frzAt_z, frzAt_n, frzAt_s, frz_int, frz_bl, frz_non, frz_tup, frz_objn, frz_ro, frz_own, frz_fz', List.getElem?_cons_zero, List.getElem?_cons_succ, List.nil_append, List.cons_append, Option.map_some, Option.map_none, Option.bind_some, List.set_cons_zero, List.set_cons_succ, List.set_nil, fz_int, fz_bl, fz_non, fz_tup, fz_lf, fz_lr, fz_lo, fz_on, D.scal, D.isN, Bool.and_true, Bool.true_and, Bool.and_self, Bool.not_true, Bool.not_false, if_true, if_false, Bool.false_eq_true, reduceIte, reduceCtorEq, seqD_l, seqD_t, frzS_ints, fzs_ints, List.length_map, Int.reduceLT, Int.reduceLE, Int.reduceNeg, Int.reduceToNat, Int.reduceAdd, Int.reduceSub, Int.reduceMul, Int.reducePow, decide_true, decide_false, Bool.or_true, Bool.true_or, Bool.or_false, Bool.false_or, Bool.false_and, Bool.and_false, ev_keep, roots, nD_frz, S.fr]) (evSl rfl) rfl rfl (by decide))
      (runs_nx (run1_fld (ρ1 := [some (D.obj (some a) 0 [0] [nD n]), some (nD n), some P, none, none, none]) (a := a) (c := 0) (ks := [0]) (ds := [nD n]) (ks' := [0, 1]) (ds' := [nD n, .tup (ls.map lineD)]) (d := .tup (ls.map lineD)) (by simp only [ev_slot, ev_con, ev_bin, ev_un, ev_cmp, ev_chain, ev_and, ev_or, ev_not, ev_ite, ev_idx, ev_sl, ev_fld, ev_tup, ev_lst, ev_call, ev_mk, ev_blt, ev_isi, evs_nil, evs_cons, evT_nil, evT_one, evI_lst, evI_r1, evI_r2, evI_down, evI_enum, evI_zip, binG_i, binG_l, cmpG_i, cmpG_n, cmpG_tt, cmpG_ll, len_l, len_t, int_i, int_b, tuple_l, tuple_t, list_l, list_t, binD, cmpD, unD, isiD, kdD, isK, truD, test, kept, keptS, keptI, peek, peekS, frzL, frzAt_nil, frzAt_z, frzAt_n, frzAt_s, frz_int, frz_bl, frz_non, frz_tup, frz_objn, frz_ro, frz_own, frz_fz', List.getElem?_cons_zero, List.getElem?_cons_succ, List.nil_append, List.cons_append, Option.map_some, Option.map_none, Option.bind_some, List.set_cons_zero, List.set_cons_succ, List.set_nil, fz_int, fz_bl, fz_non, fz_tup, fz_lf, fz_lr, fz_lo, fz_on, D.scal, D.isN, Bool.and_true, Bool.true_and, Bool.and_self, Bool.not_true, Bool.not_false, if_true, if_false, Bool.false_eq_true, reduceIte, reduceCtorEq, seqD_l, seqD_t, frzS_ints, fzs_ints, List.length_map, Int.reduceLT, Int.reduceLE, Int.reduceNeg, Int.reduceToNat, Int.reduceAdd, Int.reduceSub, Int.reduceMul, Int.reducePow, decide_true, decide_false, Bool.or_true, Bool.true_or, Bool.or_false, Bool.false_or, Bool.false_and, Bool.and_false, ev_keep, roots, nD_frz, S.fr]) ?_ rfl rfl (by show 1 < 1000; omega))
      (runs_nx (run1_fld (ρ1 := [some (D.obj (some a) 0 [0, 1] [nD n, .tup (ls.map lineD)]), some (nD n), some P, none, none, none]) (a := a) (c := 0) (ks := [0, 1]) (ds := [nD n, .tup (ls.map lineD)]) (ks' := [0, 1, 2]) (ds' := [nD n, .tup (ls.map lineD), .tup (ms.map nD)]) (d := .tup (ms.map nD)) (by simp only [ev_slot, ev_con, ev_bin, ev_un, ev_cmp, ev_chain, ev_and, ev_or, ev_not, ev_ite, ev_idx, ev_sl, ev_fld, ev_tup, ev_lst, ev_call, ev_mk, ev_blt, ev_isi, evs_nil, evs_cons, evT_nil, evT_one, evI_lst, evI_r1, evI_r2, evI_down, evI_enum, evI_zip, binG_i, binG_l, cmpG_i, cmpG_n, cmpG_tt, cmpG_ll, len_l, len_t, int_i, int_b, tuple_l, tuple_t, list_l, list_t, binD, cmpD, unD, isiD, kdD, isK, truD, test, kept, keptS, keptI, peek, peekS, frzL, frzAt_nil, frzAt_z, frzAt_n, frzAt_s, frz_int, frz_bl, frz_non, frz_tup, frz_objn, frz_ro, frz_own, frz_fz', List.getElem?_cons_zero, List.getElem?_cons_succ, List.nil_append, List.cons_append, Option.map_some, Option.map_none, Option.bind_some, List.set_cons_zero, List.set_cons_succ, List.set_nil, fz_int, fz_bl, fz_non, fz_tup, fz_lf, fz_lr, fz_lo, fz_on, D.scal, D.isN, Bool.and_true, Bool.true_and, Bool.and_self, Bool.not_true, Bool.not_false, if_true, if_false, Bool.false_eq_true, reduceIte, reduceCtorEq, seqD_l, seqD_t, frzS_ints, fzs_ints, List.length_map, Int.reduceLT, Int.reduceLE, Int.reduceNeg, Int.reduceToNat, Int.reduceAdd, Int.reduceSub, Int.reduceMul, Int.reducePow, decide_true, decide_false, Bool.or_true, Bool.true_or, Bool.or_false, Bool.false_or, Bool.false_and, Bool.and_false, ev_keep, roots, nD_frz, S.fr]) ?_ rfl rfl (by show 2 < 1000; omega))
      (runs_nx (run1_fld (ρ1 := [some (D.obj (some a) 0 [0, 1, 2] [nD n, .tup (ls.map lineD), .tup (ms.map nD)]), some (nD n), some P, none, none, none]) (a := a) (c := 0) (ks := [0, 1, 2]) (ds := [nD n, .tup (ls.map lineD), .tup (ms.map nD)]) (ks' := [0, 1, 2, 3]) (ds' := [nD n, .tup (ls.map lineD), .tup (ms.map nD), .tup ((ms.map pl).map nsD)]) (d := .tup ((ms.map pl).map nsD)) (by simp only [ev_slot, ev_con, ev_bin, ev_un, ev_cmp, ev_chain, ev_and, ev_or, ev_not, ev_ite, ev_idx, ev_sl, ev_fld, ev_tup, ev_lst, ev_call, ev_mk, ev_blt, ev_isi, evs_nil, evs_cons, evT_nil, evT_one, evI_lst, evI_r1, evI_r2, evI_down, evI_enum, evI_zip, binG_i, binG_l, cmpG_i, cmpG_n, cmpG_tt, cmpG_ll, len_l, len_t, int_i, int_b, tuple_l, tuple_t, list_l, list_t, binD, cmpD, unD, isiD, kdD, isK, truD, test, kept, keptS, keptI, peek, peekS, frzL, frzAt_nil, frzAt_z, frzAt_n, frzAt_s, frz_int, frz_bl, frz_non, frz_tup, frz_objn, frz_ro, frz_own, frz_fz', List.getElem?_cons_zero, List.getElem?_cons_succ, List.nil_append, List.cons_append, Option.map_some, Option.map_none, Option.bind_some, List.set_cons_zero, List.set_cons_succ, List.set_nil, fz_int, fz_bl, fz_non, fz_tup, fz_lf, fz_lr, fz_lo, fz_on, D.scal, D.isN, Bool.and_true, Bool.true_and, Bool.and_self, Bool.not_true, Bool.not_false, if_true, if_false, Bool.false_eq_true, reduceIte, reduceCtorEq, seqD_l, seqD_t, frzS_ints, fzs_ints, List.length_map, Int.reduceLT, Int.reduceLE, Int.reduceNeg, Int.reduceToNat, Int.reduceAdd, Int.reduceSub, Int.reduceMul, Int.reducePow, decide_true, decide_false, Bool.or_true, Bool.true_or, Bool.or_false, Bool.false_or, Bool.false_and, Bool.and_false, ev_keep, roots, nD_frz, S.fr]) ?_ rfl rfl (by show 3 < 1000; omega)) runs_nil))))
    · rw [ev_call, evs_cons, evs_cons, evs_nil, evSl rfl, evSl rfl, S.fz]
      show (if List.all [] D.dfl then (G.call 5 (frzS [nD n, P] ++ [])).map (·, true) else none) = _
      rw [show frzS [nD n, P] ++ [] = [nD n, P] by rw [List.append_nil, frzS_cons', frzS_cons', S.fr]; rfl, hc]
      rfl
    · have e1 : ev G (.lc [4, 5] (.tup (.cons (.blt .min2 (.cons (.slot 4) (.cons (.slot 5) (.nil)))) (.cons (.blt .max2 (.cons (.slot 4) (.cons (.slot 5) (.nil)))) (.nil)))) (.tup [.name 4, .name 5]) (.lst (.slot 2)) (.nil)) [some (D.obj (some a) 0 [0] [nD n]), some (nD n), some P, none, none, none] = some (.lst .own ((ls.map iP).map dP), true) := by
        refine ev_lc (items := ls.map lineD) ?_ (by rw [List.length_map]; omega) ?_
        · rw [evI_lst, evSl rfl, S.fz]
          show seqD (frz P) = _
          rw [S.fr, S.seq]
        · rw [List.map_map]
          refine compD_all _ _ fun p hp => ?_
          obtain ⟨q1, q2⟩ := hl.lt p hp
          refine lcF_yes (ρ' := [some (D.obj (some a) 0 [0] [nD n]), some (nD n), some P, none, some (nD p.1), some (nD p.2)]) rfl evT_nil ?_
          have m1 : ev G (.blt .min2 (.cons (.slot 4) (.cons (.slot 5) (.nil)))) [some (D.obj (some a) 0 [0] [nD n]), some (nD n), some P, none, some (nD p.1), some (nD p.2)] = some (nD p.1, true) := by
            rw [ev_blt, evs_cons, evs_cons, evs_nil, evSl rfl, evSl rfl]
            show some (D.int (if (p.2 : Int) < (p.1 : Int) then _ else _), true) = _
            rw [if_neg (by omega)]
            rfl
          have m2 : ev G (.blt .max2 (.cons (.slot 4) (.cons (.slot 5) (.nil)))) [some (D.obj (some a) 0 [0] [nD n]), some (nD n), some P, none, some (nD p.1), some (nD p.2)] = some (nD p.2, true) := by
            rw [ev_blt, evs_cons, evs_cons, evs_nil, evSl rfl, evSl rfl]
            show some (D.int (if (p.2 : Int) > (p.1 : Int) then _ else _), true) = _
            rw [if_pos (by omega)]
            rfl
          rw [ev_tup, evs_cons, evs_cons, evs_nil, m1, m2]
          rfl
      have e2 : ev G (.blt .setsort (.cons (.lc [4, 5] (.tup (.cons (.blt .min2 (.cons (.slot 4) (.cons (.slot 5) (.nil)))) (.cons (.blt .max2 (.cons (.slot 4) (.cons (.slot 5) (.nil)))) (.nil)))) (.tup [.name 4, .name 5]) (.lst (.slot 2)) (.nil)) .nil)) [some (D.obj (some a) 0 [0] [nD n]), some (nD n), some P, none, none, none] = some (.lst .own (ls.map lineD), true) := by
        rw [ev_blt, evs_cons, evs_nil, e1]
        show ((pairsOf ((ls.map iP).map dP)).bind fun ps => if decide (ps.length < 64) && ps.all (fun p => decide (0 ≤ p.1) && decide (0 ≤ p.2)) then some (D.lst .own ((srtP ps).map dP)) else none).map _ = _
        rw [pairsOf_map, Option.bind_some, srtP_lines hl, if_pos]
        · rw [List.map_map]
          rfl
        · rw [Bool.and_eq_true, decide_eq_true_eq, List.length_map, List.all_eq_true]
          refine ⟨h64, fun x hx => ?_⟩
          obtain ⟨p, _, rfl⟩ := List.mem_map.mp hx
          show (decide ((0 : Int) ≤ (p.1 : Int)) && decide ((0 : Int) ≤ (p.2 : Int))) = true
          rw [decide_eq_true (by omega), decide_eq_true (by omega)]
          rfl
      rw [ev_blt, evs_cons, evs_nil, e2]
      show (if fzs (ls.map lineD) then some (D.tup (ls.map lineD)) else none).map _ = _
      rw [fzs_line]
      rfl
    · have e1 : ev G (.fld (.slot 0) 1) [some (D.obj (some a) 0 [0, 1] [nD n, .tup (ls.map lineD)]), some (nD n), some P, none, none, none] = some (.tup (ls.map lineD), true) := by rw [ev_fld, evSl rfl]; rfl
      rw [ev_call, evs_cons, evs_cons, evs_nil, evSl rfl, e1]
      show (if List.all [] D.dfl then (G.call 1 [nD n, .tup (ls.map lineD)]).map (·, true) else none) = _
      rw [h1]
      rfl
    · have e1 : ev G (.fld (.slot 0) 2) [some (D.obj (some a) 0 [0, 1, 2] [nD n, .tup (ls.map lineD), .tup (ms.map nD)]), some (nD n), some P, none, none, none] = some (.tup (ms.map nD), true) := by rw [ev_fld, evSl rfl]; rfl
      have e2 : ev G (.lc [3] (.call 0 (.cons (.slot 3) (.nil)) []) (.name 3) (.lst (.fld (.slot 0) 2)) (.nil)) [some (D.obj (some a) 0 [0, 1, 2] [nD n, .tup (ls.map lineD), .tup (ms.map nD)]), some (nD n), some P, none, none, none] = some (.lst .own ((ms.map pl).map nsD), true) := by
        refine ev_lc (items := ms.map nD) ?_ (by rw [List.length_map, h2.len]; omega) ?_
        · rw [evI_lst, e1]
          rfl
        · rw [List.map_map]
          refine compD_all _ _ fun m hm => ?_
          refine lcF_yes (ρ' := [some (D.obj (some a) 0 [0, 1, 2] [nD n, .tup (ls.map lineD), .tup (ms.map nD)]), some (nD n), some P, some (nD m), none, none]) rfl evT_nil ?_
          rw [ev_call, evs_cons, evs_nil, evSl rfl]
          show (if List.all [] D.dfl then (G.call 0 [nD m]).map (·, true) else none) = _
          rw [(hpl m hm).1]
          rfl
      rw [ev_blt, evs_cons, evs_nil, e2]
      show (if fzs ((ms.map pl).map nsD) then some (D.tup ((ms.map pl).map nsD)) else none).map _ = _
      rw [fzs_ns]
      rfl
end
end P5

/-! M5h: beat. -/
namespace P5
open PySem L2 Z Bt
open Classical in
/-- the picture one beat later -/
noncomputable def nxt (n : Nat) (ls : List (Nat × Nat)) (pic : List Nat) (is : List Int) : List Nat := (List.range n).map fun b =>
  if pic[b]? = some 1 then 2 else if pic[b]? = some 2 then 0 else if (∃ p, pic[p]? = some 1 ∧ Adj ls p b) ∨ (b : Int) ∈ is then 1 else 0
section
variable {G : Gd} {ρ : Rho}
/-- step(scene, poked) -/
theorem step_ok {n : Nat} (hn : n ≤ 60) {ls : List (Nat × Nat)} {ms : List Nat} {nr : List (List Nat)} (O : WebOk n ls ms nr) {pic : List Nat} (hl : pic.length = n) (h2 : ∀ s ∈ pic, s ≤ 2) {P : D} {is : List Int} (hP : frz P = P) (hf : P.fz = true)
    (h9 : ∃ f r : Nat, G.call 9 [scD (webD n ls ms nr) pic] = some (.tup [nD f, nD r]) ∧ (∀ b, f.testBit b = true ↔ pic[b]? = some 1) ∧ ∀ b, r.testBit b = true ↔ pic[b]? = some 2)
    (h11 : ∃ r : Nat, G.call 11 [webD n ls ms nr, P] = some (nD r) ∧ ∀ b, r.testBit b = true ↔ b < n ∧ (b : Int) ∈ is)
    (h12 : ∀ f r k : Nat, f < 2 ^ n → ∃ x : Nat, G.call 12 [nsD ms, .tup [nD f, nD r], nD k] = some (.tup [nD x, nD f]) ∧ ∀ b, x.testBit b = true ↔ ((∃ p, f.testBit p = true ∧ (ms.getD p 0).testBit b = true) ∨ k.testBit b = true) ∧ ¬ f.testBit b = true ∧ ¬ r.testBit b = true)
    (h10 : ∀ f r : Nat, (∀ p, f.testBit p = true → ¬ r.testBit p = true) → G.call 10 [webD n ls ms nr, .tup [nD f, nD r]] = some (scD (webD n ls ms nr) ((List.range n).map (stOf f r)))) :
    runD G f13 [scD (webD n ls ms nr) pic, P] = some (scD (webD n ls ms nr) (nxt n ls pic is)) := by
  obtain ⟨f, r, a1, a2, a3⟩ := h9
  obtain ⟨k, b1, b2⟩ := h11
  have flt : f < 2 ^ n := by
    refine Nat.lt_pow_two_of_testBit _ fun b hb => ?_
    by_cases c : f.testBit b = true
    · have := (List.getElem?_eq_some_iff.mp ((a2 b).mp c)).1
      omega
    · simpa using c
  obtain ⟨x, c1, c2⟩ := h12 f r k flt
  have d1 := h10 x f fun p hp hq => ((c2 p).mp hp).2.1 hq
  have e : (List.range n).map (stOf x f) = nxt n ls pic is := by
    unfold nxt
    refine List.map_congr_left fun b hb => ?_
    have hb' := List.mem_range.mp hb
    have key : (∃ p, f.testBit p = true ∧ (ms.getD p 0).testBit b = true) ↔ ∃ p, pic[p]? = some 1 ∧ Adj ls p b := by
      constructor
      · rintro ⟨p, q1, q2⟩; exact ⟨p, (a2 p).mp q1, (O.masks.bit p b).mp q2⟩
      · rintro ⟨p, q1, q2⟩; exact ⟨p, (a2 p).mpr q1, (O.masks.bit p b).mpr q2⟩
    have c3 := c2 b
    rw [key, b2, a2, a3] at c3
    unfold stOf
    by_cases s1 : pic[b]? = some 1
    · rw [if_pos s1, if_pos ((a2 b).mpr s1), if_neg fun h => (c3.mp h).2.1 s1]
    · rw [if_neg s1, if_neg fun h => s1 ((a2 b).mp h)]
      by_cases s2 : pic[b]? = some 2
      · rw [if_pos s2, if_neg fun h => (c3.mp h).2.2 s2]
      · rw [if_neg s2]
        by_cases s3 : (∃ p, pic[p]? = some 1 ∧ Adj ls p b) ∨ (b : Int) ∈ is
        · rw [if_pos s3, if_pos (c3.mpr ⟨s3.imp id fun h => ⟨hb', h⟩, s1, s2⟩)]
        · rw [if_neg s3, if_neg fun h => s3 ((c3.mp h).1.imp id fun h => h.2)]
  rw [e] at d1
  generalize hW : webD n ls ms nr = W at *
  generalize hS : scD W pic = S at *
  have fW : frz W = W := by rw [← hW]; rfl
  have zW : W.fz = true := by rw [← hW]; rfl
  have fS : frz S = S := by rw [← hS]; rfl
  have zS : S.fz = true := by rw [← hS]; rfl
  refine runD_rt rfl ?_
  show runs G b13 [some S, some P, none, none] = _
  unfold b13
  refine runs_nx (run1_asg (ρ1 := [some S, some P, none, none]) (by simp only [ev_slot, ev_con, ev_bin, ev_un, ev_cmp, ev_chain, ev_and, ev_or, ev_not, ev_ite, ev_idx, ev_sl, ev_fld, ev_tup, ev_lst, ev_call, ev_mk, ev_blt, ev_isi, evs_nil, evs_cons, evT_nil, evT_one, evI_lst, evI_r1, evI_r2, evI_down, evI_enum, evI_zip, binG_i, binG_l, cmpG_i, cmpG_n, cmpG_tt, cmpG_ll, len_l, len_t, int_i, int_b, tuple_l, tuple_t, list_l, list_t, binD, cmpD, unD, isiD, kdD, isK, truD, test, kept, keptS, keptI, peek, peekS, frzL, frzAt_nil, frzAt_z, frzAt_n, frzAt_s, frz_int, frz_bl, frz_non, frz_tup, frz_objn, frz_ro, frz_own, frz_fz', List.getElem?_cons_zero, List.getElem?_cons_succ, List.nil_append, List.cons_append, Option.map_some, Option.map_none, Option.bind_some, List.set_cons_zero, List.set_cons_succ, List.set_nil, fz_int, fz_bl, fz_non, fz_tup, fz_lf, fz_lr, fz_lo, fz_on, D.scal, D.isN, Bool.and_true, Bool.true_and, Bool.and_self, Bool.not_true, Bool.not_false, if_true, if_false, Bool.false_eq_true, reduceIte, reduceCtorEq, seqD_l, seqD_t, frzS_ints, fzs_ints, List.length_map, Int.reduceLT, Int.reduceLE, Int.reduceNeg, Int.reduceToNat, Int.reduceAdd, Int.reduceSub, Int.reduceMul, Int.reducePow, decide_true, decide_false, Bool.or_true, Bool.true_or, Bool.or_false, Bool.false_or, Bool.false_and, Bool.and_false, ev_keep, roots, fS]) (d := W) ?_ rfl) (runs_nx (run1_asg (ρ1 := [some S, some P, some W, none]) (by simp only [ev_slot, ev_con, ev_bin, ev_un, ev_cmp, ev_chain, ev_and, ev_or, ev_not, ev_ite, ev_idx, ev_sl, ev_fld, ev_tup, ev_lst, ev_call, ev_mk, ev_blt, ev_isi, evs_nil, evs_cons, evT_nil, evT_one, evI_lst, evI_r1, evI_r2, evI_down, evI_enum, evI_zip, binG_i, binG_l, cmpG_i, cmpG_n, cmpG_tt, cmpG_ll, len_l, len_t, int_i, int_b, tuple_l, tuple_t, list_l, list_t, binD, cmpD, unD, isiD, kdD, isK, truD, test, kept, keptS, keptI, peek, peekS, frzL, frzAt_nil, frzAt_z, frzAt_n, frzAt_s, frz_int, frz_bl, frz_non, frz_tup, frz_objn, frz_ro, frz_own, frz_fz', List.getElem?_cons_zero, List.getElem?_cons_succ, List.nil_append, List.cons_append, Option.map_some, Option.map_none, Option.bind_some, List.set_cons_zero, List.set_cons_succ, List.set_nil, fz_int, fz_bl, fz_non, fz_tup, fz_lf, fz_lr, fz_lo, fz_on, D.scal, D.isN, Bool.and_true, Bool.true_and, Bool.and_self, Bool.not_true, Bool.not_false, if_true, if_false, Bool.false_eq_true, reduceIte, reduceCtorEq, seqD_l, seqD_t, frzS_ints, fzs_ints, List.length_map, Int.reduceLT, Int.reduceLE, Int.reduceNeg, Int.reduceToNat, Int.reduceAdd, Int.reduceSub, Int.reduceMul, Int.reducePow, decide_true, decide_false, Bool.or_true, Bool.true_or, Bool.or_false, Bool.false_or, Bool.false_and, Bool.and_false, ev_keep, roots, fS, hP, fW]) (d := .tup [nD x, nD f]) ?_ rfl) (runs_rt (run1_ret (ρ1 := [some S, some P, some W, some (.tup [nD x, nD f])]) (by simp only [ev_slot, ev_con, ev_bin, ev_un, ev_cmp, ev_chain, ev_and, ev_or, ev_not, ev_ite, ev_idx, ev_sl, ev_fld, ev_tup, ev_lst, ev_call, ev_mk, ev_blt, ev_isi, evs_nil, evs_cons, evT_nil, evT_one, evI_lst, evI_r1, evI_r2, evI_down, evI_enum, evI_zip, binG_i, binG_l, cmpG_i, cmpG_n, cmpG_tt, cmpG_ll, len_l, len_t, int_i, int_b, tuple_l, tuple_t, list_l, list_t, binD, cmpD, unD, isiD, kdD, isK, truD, test, kept, keptS, keptI, peek, peekS, frzL, frzAt_nil, frzAt_z, frzAt_n, frzAt_s, frz_int, frz_bl, frz_non, frz_tup, frz_objn, frz_ro, frz_own, frz_fz', List.getElem?_cons_zero, List.getElem?_cons_succ, List.nil_append, List.cons_append, Option.map_some, Option.map_none, Option.bind_some, List.set_cons_zero, List.set_cons_succ, List.set_nil, fz_int, fz_bl, fz_non, fz_tup, fz_lf, fz_lr, fz_lo, fz_on, D.scal, D.isN, Bool.and_true, Bool.true_and, Bool.and_self, Bool.not_true, Bool.not_false, if_true, if_false, Bool.false_eq_true, reduceIte, reduceCtorEq, seqD_l, seqD_t, frzS_ints, fzs_ints, List.length_map, Int.reduceLT, Int.reduceLE, Int.reduceNeg, Int.reduceToNat, Int.reduceAdd, Int.reduceSub, Int.reduceMul, Int.reducePow, decide_true, decide_false, Bool.or_true, Bool.true_or, Bool.or_false, Bool.false_or, Bool.false_and, Bool.and_false, ev_keep, roots, fW]) ?_)))
  · rw [ev_fld, evSl rfl, ← hS]
    show some (W, W.fz) = _
    rw [zW]
  · have e1 : ev G (.fld (.slot 2) 2) [some S, some P, some W, none] = some (nsD ms, true) := by rw [ev_fld, evSl rfl, ← hW]; rfl
    have e2 : ev G (.call 9 (.cons (.slot 0) (.nil)) []) [some S, some P, some W, none] = some (.tup [nD f, nD r], true) := by
      rw [ev_call, evs_cons, evs_nil, evSl rfl, zS]
      show (if List.all [] D.dfl then (G.call 9 (frzS [S] ++ [])).map (·, true) else none) = _
      rw [show frzS [S] ++ [] = [S] by rw [List.append_nil, frzS_cons', fS]; rfl, a1]
      rfl
    have e3 : ev G (.call 11 (.cons (.slot 2) (.cons (.slot 1) (.nil))) []) [some S, some P, some W, none] = some (nD k, true) := by
      rw [ev_call, evs_cons, evs_cons, evs_nil, evSl rfl, evSl rfl, zW, hf]
      show (if List.all [] D.dfl then (G.call 11 (frzS [W, P] ++ [])).map (·, true) else none) = _
      rw [show frzS [W, P] ++ [] = [W, P] by rw [List.append_nil, frzS_cons', frzS_cons', fW, hP]; rfl, b1]
      rfl
    rw [ev_call, evs_cons, evs_cons, evs_cons, evs_nil, e1, e2, e3]
    show (if List.all [] D.dfl then (G.call 12 [nsD ms, .tup [nD f, nD r], nD k]).map (·, true) else none) = _
    rw [c1]
    rfl
  · rw [ev_call, evs_cons, evs_cons, evs_nil, evSl rfl, evSl rfl, zW]
    show (if List.all [] D.dfl then (G.call 10 (frzS [W, .tup [nD x, nD f]] ++ [])).map (·, true) else none) = _
    rw [show frzS [W, .tup [nD x, nD f]] ++ [] = [W, .tup [nD x, nD f]] by rw [List.append_nil, frzS_cons', frzS_cons', fW]; rfl, d1]
    rfl
/-- the program, all levels deep enough -/
structure PrOk (G : Gd) : Prop where
  web : ∀ (P : D) (ls : List (Nat × Nat)) (n : Nat), n ≤ 60 → SeqL P ls → Lines n ls → ls.length < 64 → ∃ ms nr, WebOk n ls ms nr ∧ G.new 0 [nD n, P] = some (webD n ls ms nr)
  scene : ∀ (P : D) (pic : List Nat) (n : Nat) (ls : List (Nat × Nat)) (ms : List Nat) (nr : List (List Nat)), SeqN P pic → pic.length = n → (∀ s ∈ pic, s ≤ 2) → G.new 1 [webD n ls ms nr, P] = some (scD (webD n ls ms nr) pic)
  step : ∀ (n : Nat) (ls : List (Nat × Nat)) (ms : List Nat) (nr : List (List Nat)) (pic : List Nat) (P : D) (is : List Int), n ≤ 60 → WebOk n ls ms nr → pic.length = n → (∀ s ∈ pic, s ≤ 2) → frz P = P → P.fz = true → seqD P = some (is.map D.int) →
    G.call 13 [scD (webD n ls ms nr) pic, P] = some (scD (webD n ls ms nr) (nxt n ls pic is))
theorem wf_G (w d : Nat) : (Gn w d).wf = w := by cases d <;> rfl
theorem places_G (d : Nat) : Places (Gn 1000 (d + 1)) := fun m B hm hB => by
  have e : (Gn 1000 (d + 1)).call 0 = runD (Gn 1000 d) f0 := rfl
  rw [e]
  exact places_ok (wf_G _ _) m B hm hB
theorem scene_G (d : Nat) (P : D) (pic : List Nat) (n : Nat) (ls : List (Nat × Nat)) (ms : List Nat) (nr : List (List Nat)) (S : SeqN P pic) (hl : pic.length = n) (h2 : ∀ s ∈ pic, s ≤ 2) : (Gn 1000 (d + 2)).new 1 [webD n ls ms nr, P] = some (scD (webD n ls ms nr) pic) := by
  have e : (Gn 1000 (d + 2)).new 1 = newD (Gn 1000 (d + 1)) 1 f6 := rfl
  rw [e]
  refine newD_of fun a => scene_init S ?_ a
  have e2 : (Gn 1000 (d + 1)).call 8 = runD (Gn 1000 d) f8 := rfl
  rw [e2]
  exact check_pic_ok S hl h2
theorem pr_ok (d : Nat) : PrOk (Gn 1000 (d + 6)) where
  web := fun P ls n hn S hl h64 => by
    have e : (Gn 1000 (d + 6)).new 0 = newD (Gn 1000 (d + 5)) 0 f3 := rfl
    have e5 : (Gn 1000 (d + 5)).call 5 = runD (Gn 1000 (d + 4)) f5 := rfl
    have e1 : (Gn 1000 (d + 5)).call 1 = runD (Gn 1000 (d + 4)) f1 := rfl
    obtain ⟨ms, nr, h1, h2⟩ := web_init (G := Gn 1000 (d + 5)) (places_G (d + 4)) hn S hl h64 (by rw [e5]; exact check_lines_ok S fun p hp => by have := hl.lt p hp; omega) (by rw [e1]; exact near_masks_ok (by omega) fun p hp => by have := hl.lt p hp; omega)
    exact ⟨ms, nr, h1, by rw [e]; exact newD_of h2⟩
  scene := fun P pic n ls ms nr S hl h2 => scene_G (d + 4) P pic n ls ms nr S hl h2
  step := fun n ls ms nr pic P is hn O hl h2 hP hf hs => by
    have e : (Gn 1000 (d + 6)).call 13 = runD (Gn 1000 (d + 5)) f13 := rfl
    have e9 : (Gn 1000 (d + 5)).call 9 = runD (Gn 1000 (d + 4)) f9 := rfl
    have e10 : (Gn 1000 (d + 5)).call 10 = runD (Gn 1000 (d + 4)) f10 := rfl
    have e11 : (Gn 1000 (d + 5)).call 11 = runD (Gn 1000 (d + 4)) f11 := rfl
    have e12 : (Gn 1000 (d + 5)).call 12 = runD (Gn 1000 (d + 4)) f12 := rfl
    have e2 : (Gn 1000 (d + 4)).call 2 = runD (Gn 1000 (d + 3)) f2 := rfl
    rw [e]
    refine step_ok hn O hl h2 (is := is) hP hf ?_ ?_ ?_ ?_
    · rw [e9]; exact masks_ok (by omega)
    · rw [e11]; exact poked_ok (by omega) hP hf hs
    · intro f r k hf2
      rw [e12]
      refine next_ok (fun m hm => ?_) (by rw [O.masks.len]; exact hf2)
      rw [e2]
      exact spread_ok (places_G (d + 2)) hm (by rw [O.masks.len]; omega)
    · intro f r hd
      rw [e10]
      exact scene_of_ok (by omega) (fun pic hl h2 => scene_G (d + 2) _ pic n ls ms nr (seqN_l pic) hl h2) hd
end
end P5

/-! M5j: lawwebs. -/
namespace P5
open PySem L2 Z Bt
def WebQ (d : D) : Prop := ∃ (n : Nat) (ls : List (Nat × Nat)), 1 ≤ n ∧ n ≤ 7 ∧ Lines n ls ∧ ls.length ≤ 49 ∧ d = .lst .own [nD n, .lst .fz (ls.map lineD)]
structure WRow (row : List Int) : Prop where
  len : row.length = 20
  r0 : 0 ≤ row.getD 0 0 ∧ row.getD 0 0 < 12
  ev : ∀ k : Nat, 1 ≤ k → k ≤ 6 → 0 ≤ row.getD (2 * k) 0 ∧ row.getD (2 * k) 0 < 6
theorem sizes_ok : ∀ j : Nat, j < 12 → 1 ≤ ([5, 4, 6, 3, 5, 7, 4, 6, 2, 5, 1, 6] : List Int).getD j 0 ∧ ([5, 4, 6, 3, 5, 7, 4, 6, 2, 5, 1, 6] : List Int).getD j 0 ≤ 7 := by decide
section
variable {G : Gd} {ρ : Rho}
/-- _law_web -/
theorem law_web_ok {row : List Int} (hr : WRow row) {mo : Int} (h1 : 1 ≤ mo) (h7 : mo ≤ 7) : ∃ (n : Nat) (ls : List (Nat × Nat)), 1 ≤ n ∧ n ≤ 7 ∧ Lines n ls ∧ ls.length ≤ 49 ∧ runD G f17 [.lst .fz (row.map D.int), .int mo] = some (.lst .own [nD n, .lst .fz (ls.map lineD)]) := by
  generalize hR : D.lst .fz (row.map D.int) = R
  have fR : frz R = R := by rw [← hR]; show D.lst .fz (frzS _) = _; rw [frzS_ints]
  have zR : R.fz = true := by rw [← hR]; rfl
  have at_r : ∀ {ρ : Rho} {b : E} {j : Int} {g : Bool} (rest : Rho), ρ = some R :: rest → ev G b ρ = some (.int j, g) → 0 ≤ j → j < 20 → ev G (.idx (.slot 0) b) ρ = some (.int (row.getD j.toNat 0), true) := fun {ρ b j g} rest e hb h0 h1 => by
    subst e
    refine evAtI (m := .fz) (f := true) ?_ hb h0 (by rw [hr.len]; omega)
    rw [evSl rfl, zR, hR]
  suffices key : Wp G b17 [some R, some (.int mo), none, none, none, none, none, none, none] (fun _ => WebQ .non) WebQ by
    obtain ⟨d, e, n, ls, q1, q2, q3, q4, rfl⟩ := wp_def (G := G) (f := f17) (ds := [R, .int mo]) (Q := WebQ) rfl key
    exact ⟨n, ls, q1, q2, q3, q4, e⟩
  unfold b17
  have r0 := at_r (ρ := [some R, some (.int mo), none, none, none, none, none, none, none]) (b := .con (.int 0)) _ rfl (evCon rfl) (by omega) (by omega)
  have sz := sizes_ok (row.getD 0 0).toNat (by have := hr.r0; omega)
  generalize hy : ([5, 4, 6, 3, 5, 7, 4, 6, 2, 5, 1, 6] : List Int).getD (row.getD 0 0).toNat 0 = y at sz
  obtain ⟨n, hn, n1, n7⟩ : ∃ n : Nat, (if y < mo then y else mo) = (n : Int) ∧ 1 ≤ n ∧ n ≤ 7 := ⟨(if y < mo then y else mo).toNat, by split <;> omega, by split <;> omega, by split <;> omega⟩
  refine wp_asg (ρ1 := [some R, some (.int mo), none, none, none, none, none, none, none]) (by simp only [ev_slot, ev_con, ev_bin, ev_un, ev_cmp, ev_chain, ev_and, ev_or, ev_not, ev_ite, ev_idx, ev_sl, ev_fld, ev_tup, ev_lst, ev_call, ev_mk, ev_blt, ev_isi, evs_nil, evs_cons, evT_nil, evT_one, evI_lst, evI_r1, evI_r2, evI_down, evI_enum, evI_zip, binG_i, binG_l, cmpG_i, cmpG_n, cmpG_tt, cmpG_ll, len_l, len_t, int_i, int_b, tuple_l, tuple_t, list_l, list_t, binD, cmpD, unD, isiD, kdD, isK, truD, test, kept, keptS, keptI, peek, peekS, frzL, frzAt_nil, frzAt_z, frzAt_n, frzAt_s, frz_int, frz_bl, frz_non, frz_tup, frz_objn, frz_ro, frz_own, frz_fz', List.getElem?_cons_zero, List.getElem?_cons_succ, List.nil_append, List.cons_append, Option.map_some, Option.map_none, Option.bind_some, List.set_cons_zero, List.set_cons_succ, List.set_nil, fz_int, fz_bl, fz_non, fz_tup, fz_lf, fz_lr, fz_lo, fz_on, D.scal, D.isN, Bool.and_true, Bool.true_and, Bool.and_self, Bool.not_true, Bool.not_false, if_true, if_false, Bool.false_eq_true, reduceIte, reduceCtorEq, seqD_l, seqD_t, frzS_ints, fzs_ints, List.length_map, Int.reduceLT, Int.reduceLE, Int.reduceNeg, Int.reduceToNat, Int.reduceAdd, Int.reduceSub, Int.reduceMul, Int.reducePow, decide_true, decide_false, Bool.or_true, Bool.true_or, Bool.or_false, Bool.false_or, Bool.false_and, Bool.and_false, ev_keep, roots, fR]) (d := nD n) ?_ rfl ?_
  · rw [evMin2 (x := mo) (y := y) (evSl rfl) ?_, hn]
    · rfl
    · exact true
    · rw [← hy]
      exact evAtI (ns := [5, 4, 6, 3, 5, 7, 4, 6, 2, 5, 1, 6]) (evLst (by repeat (first | exact evsI_nil | refine evsI_cons (evCon rfl) ?_)) (by simp)) r0 hr.r0.1 hr.r0.2
  refine wp_asg (ρ1 := [some R, some (.int mo), some (nD n), none, none, none, none, none, none]) (by simp only [ev_slot, ev_con, ev_bin, ev_un, ev_cmp, ev_chain, ev_and, ev_or, ev_not, ev_ite, ev_idx, ev_sl, ev_fld, ev_tup, ev_lst, ev_call, ev_mk, ev_blt, ev_isi, evs_nil, evs_cons, evT_nil, evT_one, evI_lst, evI_r1, evI_r2, evI_down, evI_enum, evI_zip, binG_i, binG_l, cmpG_i, cmpG_n, cmpG_tt, cmpG_ll, len_l, len_t, int_i, int_b, tuple_l, tuple_t, list_l, list_t, binD, cmpD, unD, isiD, kdD, isK, truD, test, kept, keptS, keptI, peek, peekS, frzL, frzAt_nil, frzAt_z, frzAt_n, frzAt_s, frz_int, frz_bl, frz_non, frz_tup, frz_objn, frz_ro, frz_own, frz_fz', List.getElem?_cons_zero, List.getElem?_cons_succ, List.nil_append, List.cons_append, Option.map_some, Option.map_none, Option.bind_some, List.set_cons_zero, List.set_cons_succ, List.set_nil, fz_int, fz_bl, fz_non, fz_tup, fz_lf, fz_lr, fz_lo, fz_on, D.scal, D.isN, Bool.and_true, Bool.true_and, Bool.and_self, Bool.not_true, Bool.not_false, if_true, if_false, Bool.false_eq_true, reduceIte, reduceCtorEq, seqD_l, seqD_t, frzS_ints, fzs_ints, List.length_map, Int.reduceLT, Int.reduceLE, Int.reduceNeg, Int.reduceToNat, Int.reduceAdd, Int.reduceSub, Int.reduceMul, Int.reducePow, decide_true, decide_false, Bool.or_true, Bool.true_or, Bool.or_false, Bool.false_or, Bool.false_and, Bool.and_false, ev_keep, roots, fR]) (d := .lst .own (([] : List (Int × Int)).map dP)) (by simp only [ev_slot, ev_con, ev_bin, ev_un, ev_cmp, ev_chain, ev_and, ev_or, ev_not, ev_ite, ev_idx, ev_sl, ev_fld, ev_tup, ev_lst, ev_call, ev_mk, ev_blt, ev_isi, evs_nil, evs_cons, evT_nil, evT_one, evI_lst, evI_r1, evI_r2, evI_down, evI_enum, evI_zip, binG_i, binG_l, cmpG_i, cmpG_n, cmpG_tt, cmpG_ll, len_l, len_t, int_i, int_b, tuple_l, tuple_t, list_l, list_t, binD, cmpD, unD, isiD, kdD, isK, truD, test, kept, keptS, keptI, peek, peekS, frzL, frzAt_nil, frzAt_z, frzAt_n, frzAt_s, frz_int, frz_bl, frz_non, frz_tup, frz_objn, frz_ro, frz_own, frz_fz', List.getElem?_cons_zero, List.getElem?_cons_succ, List.nil_append, List.cons_append, Option.map_some, Option.map_none, Option.bind_some, List.set_cons_zero, List.set_cons_succ, List.set_nil, fz_int, fz_bl, fz_non, fz_tup, fz_lf, fz_lr, fz_lo, fz_on, D.scal, D.isN, Bool.and_true, Bool.true_and, Bool.and_self, Bool.not_true, Bool.not_false, if_true, if_false, Bool.false_eq_true, reduceIte, reduceCtorEq, seqD_l, seqD_t, frzS_ints, fzs_ints, List.length_map, Int.reduceLT, Int.reduceLE, Int.reduceNeg, Int.reduceToNat, Int.reduceAdd, Int.reduceSub, Int.reduceMul, Int.reducePow, decide_true, decide_false, Bool.or_true, Bool.true_or, Bool.or_false, Bool.false_or, Bool.false_and, Bool.and_false, ev_keep, roots]; rfl) rfl ?_
  have app : ∀ (kn : List (Int × Int)) (x y : Int), kn.map dP ++ [dP (x, y)] = (kn ++ [(x, y)]).map dP := fun kn x y => by rw [List.map_append]; rfl
  have at13 : ∀ {ρ : Rho} (rest : Rho), ρ = some R :: rest → ev G (.idx (.slot 0) (.con (.int 13))) ρ = some (.int (row.getD 13 0), true) := fun rest e => at_r rest e (evCon rfl) (by omega) (by omega)
  -- the lines along the numbers
  refine wp_for (ρ1 := [some R, some (.int mo), some (nD n), some (.lst .own (([] : List (Int × Int)).map dP)), none, none, none, none, none]) (items := rngD 1 ((n : Int) - 1).toNat)
    (fun i ρ => ∃ (kn : List (Int × Int)) (v4 v7 : Option D), ρ = [some R, some (.int mo), some (nD n), some (.lst .own (kn.map dP)), v4, none, none, v7, none] ∧ kn.length ≤ i) (by simp only [ev_slot, ev_con, ev_bin, ev_un, ev_cmp, ev_chain, ev_and, ev_or, ev_not, ev_ite, ev_idx, ev_sl, ev_fld, ev_tup, ev_lst, ev_call, ev_mk, ev_blt, ev_isi, evs_nil, evs_cons, evT_nil, evT_one, evI_lst, evI_r1, evI_r2, evI_down, evI_enum, evI_zip, binG_i, binG_l, cmpG_i, cmpG_n, cmpG_tt, cmpG_ll, len_l, len_t, int_i, int_b, tuple_l, tuple_t, list_l, list_t, binD, cmpD, unD, isiD, kdD, isK, truD, test, kept, keptS, keptI, peek, peekS, frzL, frzAt_nil, frzAt_z, frzAt_n, frzAt_s, frz_int, frz_bl, frz_non, frz_tup, frz_objn, frz_ro, frz_own, frz_fz', List.getElem?_cons_zero, List.getElem?_cons_succ, List.nil_append, List.cons_append, Option.map_some, Option.map_none, Option.bind_some, List.set_cons_zero, List.set_cons_succ, List.set_nil, fz_int, fz_bl, fz_non, fz_tup, fz_lf, fz_lr, fz_lo, fz_on, D.scal, D.isN, Bool.and_true, Bool.true_and, Bool.and_self, Bool.not_true, Bool.not_false, if_true, if_false, Bool.false_eq_true, reduceIte, reduceCtorEq, seqD_l, seqD_t, frzS_ints, fzs_ints, List.length_map, Int.reduceLT, Int.reduceLE, Int.reduceNeg, Int.reduceToNat, Int.reduceAdd, Int.reduceSub, Int.reduceMul, Int.reducePow, decide_true, decide_false, Bool.or_true, Bool.true_or, Bool.or_false, Bool.false_or, Bool.false_and, Bool.and_false, ev_keep, roots, nD_frz]) (evI2 (evCon rfl) (evSl rfl) (by omega) (by omega) (by omega) (by omega)) ⟨[], none, none, rfl, by simp⟩ ?_ ?_
  · rintro i d ρ hi ⟨kn, v4, v7, rfl, hk⟩
    obtain ⟨hi, rfl⟩ := rng_get hi
    refine ⟨_, rfl, ?_⟩
    have ck : (1 : Int) + (i : Int) = ((i + 1 : Nat) : Int) := by omega
    rw [ck]
    have ek := hr.ev (i + 1) (by omega) (by omega)
    obtain ⟨mt, hmt⟩ : ∃ mt : Int, ev G (.idx (.lst (.cons (.bin .Sub (.slot 4) (.con (.int 1))) (.cons (.bin .Sub (.slot 4) (.con (.int 1))) (.cons (.bin .Sub (.slot 4) (.con (.int 1))) (.cons (.con (.int 0)) (.cons (.bin .FloorDiv (.slot 4) (.con (.int 2))) (.cons (.con (.int 0)) (.nil)))))))) (.idx (.slot 0) (.bin .Mult (.con (.int 2)) (.slot 4)))) [some R, some (.int mo), some (nD n), some (.lst .own (kn.map dP)), some (nD (i + 1)), none, none, v7, none] = some (.int mt, true) := by
      have e4 : ev G (.slot 4) [some R, some (.int mo), some (nD n), some (.lst .own (kn.map dP)), some (nD (i + 1)), none, none, v7, none] = some (.int ((i + 1 : Nat) : Int), true) := evSl rfl
      have e5 := evSub e4 (evCon (G := G) (d := .int 1) rfl)
      have e6 := evDiv2 e4 (evCon (G := G) (d := .int 2) rfl) (by omega) (by omega)
      have e7 := at_r _ rfl (evMul (evCon (G := G) (d := .int 2) rfl) e4 (mul_l _ (by omega) (by omega))) (by omega) (by omega)
      rw [show ((2 : Int) * ((i + 1 : Nat) : Int)).toNat = 2 * (i + 1) by omega] at e7
      exact ⟨_, evAtI (evLst (evsI_cons e5 (evsI_cons e5 (evsI_cons e5 (evsI_cons (evCon rfl) (evsI_cons e6 (evsI_cons (evCon rfl) evsI_nil)))))) (by simp)) e7 ek.1 (by show _ < (6 : Int); omega)⟩
    refine wp_asg (ρ1 := [some R, some (.int mo), some (nD n), some (.lst .own (kn.map dP)), some (nD (i + 1)), none, none, v7, none]) (by simp only [ev_slot, ev_con, ev_bin, ev_un, ev_cmp, ev_chain, ev_and, ev_or, ev_not, ev_ite, ev_idx, ev_sl, ev_fld, ev_tup, ev_lst, ev_call, ev_mk, ev_blt, ev_isi, evs_nil, evs_cons, evT_nil, evT_one, evI_lst, evI_r1, evI_r2, evI_down, evI_enum, evI_zip, binG_i, binG_l, cmpG_i, cmpG_n, cmpG_tt, cmpG_ll, len_l, len_t, int_i, int_b, tuple_l, tuple_t, list_l, list_t, binD, cmpD, unD, isiD, kdD, isK, truD, test, kept, keptS, keptI, peek, peekS, frzL, frzAt_nil, frzAt_z, frzAt_n, frzAt_s, frz_int, frz_bl, frz_non, frz_tup, frz_objn, frz_ro, frz_own, frz_fz', List.getElem?_cons_zero, List.getElem?_cons_succ, List.nil_append, List.cons_append, Option.map_some, Option.map_none, Option.bind_some, List.set_cons_zero, List.set_cons_succ, List.set_nil, fz_int, fz_bl, fz_non, fz_tup, fz_lf, fz_lr, fz_lo, fz_on, D.scal, D.isN, Bool.and_true, Bool.true_and, Bool.and_self, Bool.not_true, Bool.not_false, if_true, if_false, Bool.false_eq_true, reduceIte, reduceCtorEq, seqD_l, seqD_t, frzS_ints, fzs_ints, List.length_map, Int.reduceLT, Int.reduceLE, Int.reduceNeg, Int.reduceToNat, Int.reduceAdd, Int.reduceSub, Int.reduceMul, Int.reducePow, decide_true, decide_false, Bool.or_true, Bool.true_or, Bool.or_false, Bool.false_or, Bool.false_and, Bool.and_false, ev_keep, roots, fR, nD_frz]; rfl) (d := .int mt) hmt rfl ?_
    refine wp_if (ρ1 := [some R, some (.int mo), some (nD n), some (.lst .own (kn.map dP)), some (nD (i + 1)), none, none, some (.int mt), none]) (by simp only [ev_slot, ev_con, ev_bin, ev_un, ev_cmp, ev_chain, ev_and, ev_or, ev_not, ev_ite, ev_idx, ev_sl, ev_fld, ev_tup, ev_lst, ev_call, ev_mk, ev_blt, ev_isi, evs_nil, evs_cons, evT_nil, evT_one, evI_lst, evI_r1, evI_r2, evI_down, evI_enum, evI_zip, binG_i, binG_l, cmpG_i, cmpG_n, cmpG_tt, cmpG_ll, len_l, len_t, int_i, int_b, tuple_l, tuple_t, list_l, list_t, binD, cmpD, unD, isiD, kdD, isK, truD, test, kept, keptS, keptI, peek, peekS, frzL, frzAt_nil, frzAt_z, frzAt_n, frzAt_s, frz_int, frz_bl, frz_non, frz_tup, frz_objn, frz_ro, frz_own, frz_fz', List.getElem?_cons_zero, List.getElem?_cons_succ, List.nil_append, List.cons_append, Option.map_some, Option.map_none, Option.bind_some, List.set_cons_zero, List.set_cons_succ, List.set_nil, fz_int, fz_bl, fz_non, fz_tup, fz_lf, fz_lr, fz_lo, fz_on, D.scal, D.isN, Bool.and_true, Bool.true_and, Bool.and_self, Bool.not_true, Bool.not_false, if_true, if_false, Bool.false_eq_true, reduceIte, reduceCtorEq, seqD_l, seqD_t, frzS_ints, fzs_ints, List.length_map, Int.reduceLT, Int.reduceLE, Int.reduceNeg, Int.reduceToNat, Int.reduceAdd, Int.reduceSub, Int.reduceMul, Int.reducePow, decide_true, decide_false, Bool.or_true, Bool.true_or, Bool.or_false, Bool.false_or, Bool.false_and, Bool.and_false, ev_keep, roots, fR]) (evLt (at13 _ rfl) (evCon rfl)) ?_
    have rest : ∀ mt : Int, Wp G (.cons (.ite (.cmp .Lt (.idx (.slot 0) (.bin .Sub (.bin .Mult (.con (.int 2)) (.slot 4)) (.con (.int 1)))) (.con (.int 19))) (.cons (.app 3 (.tup (.cons (.slot 7) (.cons (.slot 4) (.nil))))) (.nil)) (.nil)) (.nil)) [some R, some (.int mo), some (nD n), some (.lst .own (kn.map dP)), some (nD (i + 1)), none, none, some (.int mt), none]
        (fun ρ => ∃ (kn : List (Int × Int)) (v4 v7 : Option D), ρ = [some R, some (.int mo), some (nD n), some (.lst .own (kn.map dP)), v4, none, none, v7, none] ∧ kn.length ≤ i + 1) fun _ => False := fun mt => by
      have e4 : ev G (.slot 4) [some R, some (.int mo), some (nD n), some (.lst .own (kn.map dP)), some (nD (i + 1)), none, none, some (.int mt), none] = some (.int ((i + 1 : Nat) : Int), true) := evSl rfl
      refine wp_if (ρ1 := [some R, some (.int mo), some (nD n), some (.lst .own (kn.map dP)), some (nD (i + 1)), none, none, some (.int mt), none]) (by simp only [ev_slot, ev_con, ev_bin, ev_un, ev_cmp, ev_chain, ev_and, ev_or, ev_not, ev_ite, ev_idx, ev_sl, ev_fld, ev_tup, ev_lst, ev_call, ev_mk, ev_blt, ev_isi, evs_nil, evs_cons, evT_nil, evT_one, evI_lst, evI_r1, evI_r2, evI_down, evI_enum, evI_zip, binG_i, binG_l, cmpG_i, cmpG_n, cmpG_tt, cmpG_ll, len_l, len_t, int_i, int_b, tuple_l, tuple_t, list_l, list_t, binD, cmpD, unD, isiD, kdD, isK, truD, test, kept, keptS, keptI, peek, peekS, frzL, frzAt_nil, frzAt_z, frzAt_n, frzAt_s, frz_int, frz_bl, frz_non, frz_tup, frz_objn, frz_ro, frz_own, frz_fz', List.getElem?_cons_zero, List.getElem?_cons_succ, List.nil_append, List.cons_append, Option.map_some, Option.map_none, Option.bind_some, List.set_cons_zero, List.set_cons_succ, List.set_nil, fz_int, fz_bl, fz_non, fz_tup, fz_lf, fz_lr, fz_lo, fz_on, D.scal, D.isN, Bool.and_true, Bool.true_and, Bool.and_self, Bool.not_true, Bool.not_false, if_true, if_false, Bool.false_eq_true, reduceIte, reduceCtorEq, seqD_l, seqD_t, frzS_ints, fzs_ints, List.length_map, Int.reduceLT, Int.reduceLE, Int.reduceNeg, Int.reduceToNat, Int.reduceAdd, Int.reduceSub, Int.reduceMul, Int.reducePow, decide_true, decide_false, Bool.or_true, Bool.true_or, Bool.or_false, Bool.false_or, Bool.false_and, Bool.and_false, ev_keep, roots, fR, nD_frz]) (evLt (at_r _ rfl (evSub (evMul (evCon (G := G) (d := .int 2) rfl) e4 (mul_l _ (by omega) (by omega))) (evCon rfl)) (by omega) (by omega)) (evCon rfl)) ?_
      split
      · refine wp_app (ρ1 := [some R, some (.int mo), some (nD n), some (.lst .own (kn.map dP)), some (nD (i + 1)), none, none, some (.int mt), none]) (by simp only [ev_slot, ev_con, ev_bin, ev_un, ev_cmp, ev_chain, ev_and, ev_or, ev_not, ev_ite, ev_idx, ev_sl, ev_fld, ev_tup, ev_lst, ev_call, ev_mk, ev_blt, ev_isi, evs_nil, evs_cons, evT_nil, evT_one, evI_lst, evI_r1, evI_r2, evI_down, evI_enum, evI_zip, binG_i, binG_l, cmpG_i, cmpG_n, cmpG_tt, cmpG_ll, len_l, len_t, int_i, int_b, tuple_l, tuple_t, list_l, list_t, binD, cmpD, unD, isiD, kdD, isK, truD, test, kept, keptS, keptI, peek, peekS, frzL, frzAt_nil, frzAt_z, frzAt_n, frzAt_s, frz_int, frz_bl, frz_non, frz_tup, frz_objn, frz_ro, frz_own, frz_fz', List.getElem?_cons_zero, List.getElem?_cons_succ, List.nil_append, List.cons_append, Option.map_some, Option.map_none, Option.bind_some, List.set_cons_zero, List.set_cons_succ, List.set_nil, fz_int, fz_bl, fz_non, fz_tup, fz_lf, fz_lr, fz_lo, fz_on, D.scal, D.isN, Bool.and_true, Bool.true_and, Bool.and_self, Bool.not_true, Bool.not_false, if_true, if_false, Bool.false_eq_true, reduceIte, reduceCtorEq, seqD_l, seqD_t, frzS_ints, fzs_ints, List.length_map, Int.reduceLT, Int.reduceLE, Int.reduceNeg, Int.reduceToNat, Int.reduceAdd, Int.reduceSub, Int.reduceMul, Int.reducePow, decide_true, decide_false, Bool.or_true, Bool.true_or, Bool.or_false, Bool.false_or, Bool.false_and, Bool.and_false, ev_keep, roots, nD_frz]) (evPair (evSl rfl) e4) rfl (by rw [List.length_map]; unfold most; omega) (wp_nil (wp_nil ⟨kn ++ [(mt, ((i + 1 : Nat) : Int))], _, _, by rw [← app]; rfl, by rw [List.length_append, List.length_singleton]; omega⟩))
      · exact wp_nil (wp_nil ⟨kn, _, _, rfl, by omega⟩)
    split
    · refine wp_asg (ρ1 := [some R, some (.int mo), some (nD n), some (.lst .own (kn.map dP)), some (nD (i + 1)), none, none, some (.int mt), none]) (by simp only [ev_slot, ev_con, ev_bin, ev_un, ev_cmp, ev_chain, ev_and, ev_or, ev_not, ev_ite, ev_idx, ev_sl, ev_fld, ev_tup, ev_lst, ev_call, ev_mk, ev_blt, ev_isi, evs_nil, evs_cons, evT_nil, evT_one, evI_lst, evI_r1, evI_r2, evI_down, evI_enum, evI_zip, binG_i, binG_l, cmpG_i, cmpG_n, cmpG_tt, cmpG_ll, len_l, len_t, int_i, int_b, tuple_l, tuple_t, list_l, list_t, binD, cmpD, unD, isiD, kdD, isK, truD, test, kept, keptS, keptI, peek, peekS, frzL, frzAt_nil, frzAt_z, frzAt_n, frzAt_s, frz_int, frz_bl, frz_non, frz_tup, frz_objn, frz_ro, frz_own, frz_fz', List.getElem?_cons_zero, List.getElem?_cons_succ, List.nil_append, List.cons_append, Option.map_some, Option.map_none, Option.bind_some, List.set_cons_zero, List.set_cons_succ, List.set_nil, fz_int, fz_bl, fz_non, fz_tup, fz_lf, fz_lr, fz_lo, fz_on, D.scal, D.isN, Bool.and_true, Bool.true_and, Bool.and_self, Bool.not_true, Bool.not_false, if_true, if_false, Bool.false_eq_true, reduceIte, reduceCtorEq, seqD_l, seqD_t, frzS_ints, fzs_ints, List.length_map, Int.reduceLT, Int.reduceLE, Int.reduceNeg, Int.reduceToNat, Int.reduceAdd, Int.reduceSub, Int.reduceMul, Int.reducePow, decide_true, decide_false, Bool.or_true, Bool.true_or, Bool.or_false, Bool.false_or, Bool.false_and, Bool.and_false, ev_keep, roots, nD_frz]) (evSub (evSl rfl) (evCon rfl)) rfl (wp_nil (rest _))
    · exact wp_nil (rest _)
  rw [rngD_len]
  rintro ρ ⟨kn, v4, v7, rfl, hk⟩
  -- the rest, whatever is known
  have nested : ∀ (kn : List (Int × Int)) (v4 v6 v7 v8 : Option D), Wp G (.cons (.asg (.name 5) (.lst (.nil))) (.cons (.for_ (.name 6) (.rng1 (.slot 2)) (.cons (.for_ (.name 8) (.rng2 (.bin .Add (.slot 6) (.con (.int 1))) (.slot 2)) (.cons (.ite (.cmp .In (.tup (.cons (.slot 6) (.cons (.slot 8) (.nil)))) (.slot 3)) (.cons (.app 5 (.tup (.cons (.slot 6) (.cons (.slot 8) (.nil))))) (.nil)) (.nil)) (.nil))) (.nil))) (.cons (.ret (.lst (.cons (.slot 2) (.cons (.slot 5) (.nil))))) (.nil))))
      [some R, some (.int mo), some (nD n), some (.lst .own (kn.map dP)), v4, none, v6, v7, v8] (fun _ => WebQ .non) WebQ := fun kn v4 v6 v7 v8 => by
    refine wp_asg (ρ1 := [some R, some (.int mo), some (nD n), some (.lst .own (kn.map dP)), v4, none, v6, v7, v8]) (by simp only [ev_slot, ev_con, ev_bin, ev_un, ev_cmp, ev_chain, ev_and, ev_or, ev_not, ev_ite, ev_idx, ev_sl, ev_fld, ev_tup, ev_lst, ev_call, ev_mk, ev_blt, ev_isi, evs_nil, evs_cons, evT_nil, evT_one, evI_lst, evI_r1, evI_r2, evI_down, evI_enum, evI_zip, binG_i, binG_l, cmpG_i, cmpG_n, cmpG_tt, cmpG_ll, len_l, len_t, int_i, int_b, tuple_l, tuple_t, list_l, list_t, binD, cmpD, unD, isiD, kdD, isK, truD, test, kept, keptS, keptI, peek, peekS, frzL, frzAt_nil, frzAt_z, frzAt_n, frzAt_s, frz_int, frz_bl, frz_non, frz_tup, frz_objn, frz_ro, frz_own, frz_fz', List.getElem?_cons_zero, List.getElem?_cons_succ, List.nil_append, List.cons_append, Option.map_some, Option.map_none, Option.bind_some, List.set_cons_zero, List.set_cons_succ, List.set_nil, fz_int, fz_bl, fz_non, fz_tup, fz_lf, fz_lr, fz_lo, fz_on, D.scal, D.isN, Bool.and_true, Bool.true_and, Bool.and_self, Bool.not_true, Bool.not_false, if_true, if_false, Bool.false_eq_true, reduceIte, reduceCtorEq, seqD_l, seqD_t, frzS_ints, fzs_ints, List.length_map, Int.reduceLT, Int.reduceLE, Int.reduceNeg, Int.reduceToNat, Int.reduceAdd, Int.reduceSub, Int.reduceMul, Int.reducePow, decide_true, decide_false, Bool.or_true, Bool.true_or, Bool.or_false, Bool.false_or, Bool.false_and, Bool.and_false, ev_keep, roots]) (d := .lst .own (([] : List (Nat × Nat)).map lineD)) (by simp only [ev_slot, ev_con, ev_bin, ev_un, ev_cmp, ev_chain, ev_and, ev_or, ev_not, ev_ite, ev_idx, ev_sl, ev_fld, ev_tup, ev_lst, ev_call, ev_mk, ev_blt, ev_isi, evs_nil, evs_cons, evT_nil, evT_one, evI_lst, evI_r1, evI_r2, evI_down, evI_enum, evI_zip, binG_i, binG_l, cmpG_i, cmpG_n, cmpG_tt, cmpG_ll, len_l, len_t, int_i, int_b, tuple_l, tuple_t, list_l, list_t, binD, cmpD, unD, isiD, kdD, isK, truD, test, kept, keptS, keptI, peek, peekS, frzL, frzAt_nil, frzAt_z, frzAt_n, frzAt_s, frz_int, frz_bl, frz_non, frz_tup, frz_objn, frz_ro, frz_own, frz_fz', List.getElem?_cons_zero, List.getElem?_cons_succ, List.nil_append, List.cons_append, Option.map_some, Option.map_none, Option.bind_some, List.set_cons_zero, List.set_cons_succ, List.set_nil, fz_int, fz_bl, fz_non, fz_tup, fz_lf, fz_lr, fz_lo, fz_on, D.scal, D.isN, Bool.and_true, Bool.true_and, Bool.and_self, Bool.not_true, Bool.not_false, if_true, if_false, Bool.false_eq_true, reduceIte, reduceCtorEq, seqD_l, seqD_t, frzS_ints, fzs_ints, List.length_map, Int.reduceLT, Int.reduceLE, Int.reduceNeg, Int.reduceToNat, Int.reduceAdd, Int.reduceSub, Int.reduceMul, Int.reducePow, decide_true, decide_false, Bool.or_true, Bool.true_or, Bool.or_false, Bool.false_or, Bool.false_and, Bool.and_false, ev_keep, roots]; rfl) rfl ?_
    refine wp_for (ρ1 := [some R, some (.int mo), some (nD n), some (.lst .own (kn.map dP)), v4, some (.lst .own (([] : List (Nat × Nat)).map lineD)), v6, v7, v8]) (items := rngD 0 n)
      (fun i ρ => ∃ (ls : List (Nat × Nat)) (v6 v8 : Option D), ρ = [some R, some (.int mo), some (nD n), some (.lst .own (kn.map dP)), v4, some (.lst .own (ls.map lineD)), v6, v7, v8] ∧ Lines n ls ∧ (∀ p ∈ ls, p.1 < i) ∧ ls.length ≤ 7 * i) (by simp only [ev_slot, ev_con, ev_bin, ev_un, ev_cmp, ev_chain, ev_and, ev_or, ev_not, ev_ite, ev_idx, ev_sl, ev_fld, ev_tup, ev_lst, ev_call, ev_mk, ev_blt, ev_isi, evs_nil, evs_cons, evT_nil, evT_one, evI_lst, evI_r1, evI_r2, evI_down, evI_enum, evI_zip, binG_i, binG_l, cmpG_i, cmpG_n, cmpG_tt, cmpG_ll, len_l, len_t, int_i, int_b, tuple_l, tuple_t, list_l, list_t, binD, cmpD, unD, isiD, kdD, isK, truD, test, kept, keptS, keptI, peek, peekS, frzL, frzAt_nil, frzAt_z, frzAt_n, frzAt_s, frz_int, frz_bl, frz_non, frz_tup, frz_objn, frz_ro, frz_own, frz_fz', List.getElem?_cons_zero, List.getElem?_cons_succ, List.nil_append, List.cons_append, Option.map_some, Option.map_none, Option.bind_some, List.set_cons_zero, List.set_cons_succ, List.set_nil, fz_int, fz_bl, fz_non, fz_tup, fz_lf, fz_lr, fz_lo, fz_on, D.scal, D.isN, Bool.and_true, Bool.true_and, Bool.and_self, Bool.not_true, Bool.not_false, if_true, if_false, Bool.false_eq_true, reduceIte, reduceCtorEq, seqD_l, seqD_t, frzS_ints, fzs_ints, List.length_map, Int.reduceLT, Int.reduceLE, Int.reduceNeg, Int.reduceToNat, Int.reduceAdd, Int.reduceSub, Int.reduceMul, Int.reducePow, decide_true, decide_false, Bool.or_true, Bool.true_or, Bool.or_false, Bool.false_or, Bool.false_and, Bool.and_false, ev_keep, roots, nD_frz]) (evI1 (j := (n : Int)) (evSl rfl) (by omega) (by omega)) ⟨[], _, _, rfl, ⟨fun p hp => by (cases hp), .nil⟩, fun p hp => by (cases hp), by simp⟩ ?_ ?_
    · rintro i d ρ hi ⟨ls, v6, v8, rfl, hl, hlt, hlen⟩
      obtain ⟨hi, rfl⟩ := rng_get hi
      rw [show (0 : Int) + (i : Int) = (i : Int) by omega]
      refine ⟨_, rfl, ?_⟩
      refine wp_for (ρ1 := [some R, some (.int mo), some (nD n), some (.lst .own (kn.map dP)), v4, some (.lst .own (ls.map lineD)), some (nD i), v7, v8]) (items := rngD ((i : Int) + 1) ((n : Int) - ((i : Int) + 1)).toNat)
        (fun j ρ => ∃ (ls : List (Nat × Nat)) (v8 : Option D), ρ = [some R, some (.int mo), some (nD n), some (.lst .own (kn.map dP)), v4, some (.lst .own (ls.map lineD)), some (nD i), v7, v8] ∧ Lines n ls ∧ (∀ p ∈ ls, p.1 < i ∨ (p.1 = i ∧ p.2 < i + 1 + j)) ∧ ls.length ≤ 7 * i + j) (by simp only [ev_slot, ev_con, ev_bin, ev_un, ev_cmp, ev_chain, ev_and, ev_or, ev_not, ev_ite, ev_idx, ev_sl, ev_fld, ev_tup, ev_lst, ev_call, ev_mk, ev_blt, ev_isi, evs_nil, evs_cons, evT_nil, evT_one, evI_lst, evI_r1, evI_r2, evI_down, evI_enum, evI_zip, binG_i, binG_l, cmpG_i, cmpG_n, cmpG_tt, cmpG_ll, len_l, len_t, int_i, int_b, tuple_l, tuple_t, list_l, list_t, binD, cmpD, unD, isiD, kdD, isK, truD, test, kept, keptS, keptI, peek, peekS, frzL, frzAt_nil, frzAt_z, frzAt_n, frzAt_s, frz_int, frz_bl, frz_non, frz_tup, frz_objn, frz_ro, frz_own, frz_fz', List.getElem?_cons_zero, List.getElem?_cons_succ, List.nil_append, List.cons_append, Option.map_some, Option.map_none, Option.bind_some, List.set_cons_zero, List.set_cons_succ, List.set_nil, fz_int, fz_bl, fz_non, fz_tup, fz_lf, fz_lr, fz_lo, fz_on, D.scal, D.isN, Bool.and_true, Bool.true_and, Bool.and_self, Bool.not_true, Bool.not_false, if_true, if_false, Bool.false_eq_true, reduceIte, reduceCtorEq, seqD_l, seqD_t, frzS_ints, fzs_ints, List.length_map, Int.reduceLT, Int.reduceLE, Int.reduceNeg, Int.reduceToNat, Int.reduceAdd, Int.reduceSub, Int.reduceMul, Int.reducePow, decide_true, decide_false, Bool.or_true, Bool.true_or, Bool.or_false, Bool.false_or, Bool.false_and, Bool.and_false, ev_keep, roots, nD_frz]; rfl) (evI2 (evAdd (evSl rfl) (evCon rfl)) (evSl rfl) (by omega) (by omega) (by omega) (by omega)) ⟨ls, _, rfl, hl, fun p hp => .inl (hlt p hp), by omega⟩ ?_ ?_
      · rintro j d ρ hj ⟨ls, v8, rfl, hl, hlt, hlen⟩
        obtain ⟨hj, rfl⟩ := rng_get hj
        rw [show (i : Int) + 1 + (j : Int) = ((i + 1 + j : Nat) : Int) by omega]
        refine ⟨_, rfl, ?_⟩
        obtain ⟨t, ht⟩ := evIn (G := G) (ρ := [some R, some (.int mo), some (nD n), some (.lst .own (kn.map dP)), v4, some (.lst .own (ls.map lineD)), some (nD i), v7, some (nD (i + 1 + j))]) (a := .tup (.cons (.slot 6) (.cons (.slot 8) (.nil)))) (b := .slot 3) (x := ((i : Int), ((i + 1 + j : Nat) : Int))) (evPair (evSl rfl) (evSl rfl)) (evSl rfl)
        refine wp_if (ρ1 := [some R, some (.int mo), some (nD n), some (.lst .own (kn.map dP)), v4, some (.lst .own (ls.map lineD)), some (nD i), v7, some (nD (i + 1 + j))]) (by simp only [ev_slot, ev_con, ev_bin, ev_un, ev_cmp, ev_chain, ev_and, ev_or, ev_not, ev_ite, ev_idx, ev_sl, ev_fld, ev_tup, ev_lst, ev_call, ev_mk, ev_blt, ev_isi, evs_nil, evs_cons, evT_nil, evT_one, evI_lst, evI_r1, evI_r2, evI_down, evI_enum, evI_zip, binG_i, binG_l, cmpG_i, cmpG_n, cmpG_tt, cmpG_ll, len_l, len_t, int_i, int_b, tuple_l, tuple_t, list_l, list_t, binD, cmpD, unD, isiD, kdD, isK, truD, test, kept, keptS, keptI, peek, peekS, frzL, frzAt_nil, frzAt_z, frzAt_n, frzAt_s, frz_int, frz_bl, frz_non, frz_tup, frz_objn, frz_ro, frz_own, frz_fz', List.getElem?_cons_zero, List.getElem?_cons_succ, List.nil_append, List.cons_append, Option.map_some, Option.map_none, Option.bind_some, List.set_cons_zero, List.set_cons_succ, List.set_nil, fz_int, fz_bl, fz_non, fz_tup, fz_lf, fz_lr, fz_lo, fz_on, D.scal, D.isN, Bool.and_true, Bool.true_and, Bool.and_self, Bool.not_true, Bool.not_false, if_true, if_false, Bool.false_eq_true, reduceIte, reduceCtorEq, seqD_l, seqD_t, frzS_ints, fzs_ints, List.length_map, Int.reduceLT, Int.reduceLE, Int.reduceNeg, Int.reduceToNat, Int.reduceAdd, Int.reduceSub, Int.reduceMul, Int.reducePow, decide_true, decide_false, Bool.or_true, Bool.true_or, Bool.or_false, Bool.false_or, Bool.false_and, Bool.and_false, ev_keep, roots, nD_frz]; try rfl) ht ?_
        cases t
        · exact wp_nil (wp_nil ⟨ls, _, rfl, hl, fun p hp => by have := hlt p hp; omega, by omega⟩)
        · refine wp_app (ρ1 := [some R, some (.int mo), some (nD n), some (.lst .own (kn.map dP)), v4, some (.lst .own (ls.map lineD)), some (nD i), v7, some (nD (i + 1 + j))]) (by simp only [ev_slot, ev_con, ev_bin, ev_un, ev_cmp, ev_chain, ev_and, ev_or, ev_not, ev_ite, ev_idx, ev_sl, ev_fld, ev_tup, ev_lst, ev_call, ev_mk, ev_blt, ev_isi, evs_nil, evs_cons, evT_nil, evT_one, evI_lst, evI_r1, evI_r2, evI_down, evI_enum, evI_zip, binG_i, binG_l, cmpG_i, cmpG_n, cmpG_tt, cmpG_ll, len_l, len_t, int_i, int_b, tuple_l, tuple_t, list_l, list_t, binD, cmpD, unD, isiD, kdD, isK, truD, test, kept, keptS, keptI, peek, peekS, frzL, frzAt_nil, frzAt_z, frzAt_n, frzAt_s, frz_int, frz_bl, frz_non, frz_tup, frz_objn, frz_ro, frz_own, frz_fz', List.getElem?_cons_zero, List.getElem?_cons_succ, List.nil_append, List.cons_append, Option.map_some, Option.map_none, Option.bind_some, List.set_cons_zero, List.set_cons_succ, List.set_nil, fz_int, fz_bl, fz_non, fz_tup, fz_lf, fz_lr, fz_lo, fz_on, D.scal, D.isN, Bool.and_true, Bool.true_and, Bool.and_self, Bool.not_true, Bool.not_false, if_true, if_false, Bool.false_eq_true, reduceIte, reduceCtorEq, seqD_l, seqD_t, frzS_ints, fzs_ints, List.length_map, Int.reduceLT, Int.reduceLE, Int.reduceNeg, Int.reduceToNat, Int.reduceAdd, Int.reduceSub, Int.reduceMul, Int.reducePow, decide_true, decide_false, Bool.or_true, Bool.true_or, Bool.or_false, Bool.false_or, Bool.false_and, Bool.and_false, ev_keep, roots, nD_frz]; try rfl) (evPair (x := (i : Int)) (y := ((i + 1 + j : Nat) : Int)) (evSl rfl) (evSl rfl)) rfl (by rw [List.length_map]; unfold most; omega) (wp_nil (wp_nil ⟨ls ++ [(i, i + 1 + j)], _, by rw [List.map_append]; rfl, ⟨fun p hp => ?_, ?_⟩, fun p hp => ?_, by rw [List.length_append, List.length_singleton]; omega⟩))
          · rcases List.mem_append.mp hp with hp | hp
            · exact hl.lt p hp
            · rw [List.mem_singleton.mp hp]
              show i < i + 1 + j ∧ i + 1 + j < n
              omega
          · refine List.pairwise_append.mpr ⟨hl.srt, List.pairwise_singleton _ _, fun p hp q hq => ?_⟩
            rw [List.mem_singleton.mp hq]
            have := hlt p hp
            show p.1 < i ∨ (p.1 = i ∧ p.2 < i + 1 + j)
            omega
          · rcases List.mem_append.mp hp with hp | hp
            · have := hlt p hp
              omega
            · rw [List.mem_singleton.mp hp]
              right
              exact ⟨rfl, by show i + 1 + j < i + 1 + (j + 1); omega⟩
      · rw [rngD_len]
        rintro ρ ⟨ls, v8, rfl, hl, hlt, hlen⟩
        exact wp_nil ⟨ls, _, _, rfl, hl, fun p hp => by have := hlt p hp; omega, by omega⟩
    · rw [rngD_len]
      rintro ρ ⟨ls, v6, v8, rfl, hl, hlt, hlen⟩
      refine wp_ret (ρ1 := [some R, some (.int mo), some (nD n), some (.lst .own (kn.map dP)), v4, some (.lst .fz (ls.map lineD)), v6, v7, v8]) (by simp only [ev_slot, ev_con, ev_bin, ev_un, ev_cmp, ev_chain, ev_and, ev_or, ev_not, ev_ite, ev_idx, ev_sl, ev_fld, ev_tup, ev_lst, ev_call, ev_mk, ev_blt, ev_isi, evs_nil, evs_cons, evT_nil, evT_one, evI_lst, evI_r1, evI_r2, evI_down, evI_enum, evI_zip, binG_i, binG_l, cmpG_i, cmpG_n, cmpG_tt, cmpG_ll, len_l, len_t, int_i, int_b, tuple_l, tuple_t, list_l, list_t, binD, cmpD, unD, isiD, kdD, isK, truD, test, kept, keptS, keptI, peek, peekS, frzL, frzAt_nil, frzAt_z, frzAt_n, frzAt_s, frz_int, frz_bl, frz_non, frz_tup, frz_objn, frz_ro, frz_own, frz_fz', List.getElem?_cons_zero, List.getElem?_cons_succ, List.nil_append, List.cons_append, Option.map_some, Option.map_none, Option.bind_some, List.set_cons_zero, List.set_cons_succ, List.set_nil, fz_int, fz_bl, fz_non, fz_tup, fz_lf, fz_lr, fz_lo, fz_on, D.scal, D.isN, Bool.and_true, Bool.true_and, Bool.and_self, Bool.not_true, Bool.not_false, if_true, if_false, Bool.false_eq_true, reduceIte, reduceCtorEq, seqD_l, seqD_t, frzS_ints, fzs_ints, List.length_map, Int.reduceLT, Int.reduceLE, Int.reduceNeg, Int.reduceToNat, Int.reduceAdd, Int.reduceSub, Int.reduceMul, Int.reducePow, decide_true, decide_false, Bool.or_true, Bool.true_or, Bool.or_false, Bool.false_or, Bool.false_and, Bool.and_false, ev_keep, roots, nD_frz, frzS_line]) (d := .lst .own [nD n, .lst .fz (ls.map lineD)]) ?_ ⟨n, ls, n1, n7, hl, by omega, rfl⟩
      rw [ev_lst, evs_cons, evs_cons, evs_nil, evSl rfl, evSl rfl]
      rfl
  have third : ∀ (kn : List (Int × Int)) (v4 v7 : Option D), kn.length ≤ 7 → Wp G (.cons (.for_ (.name 4) (.rng1 (.con (.int 3))) (.cons (.asg (.name 6) (.bin .Mod (.idx (.slot 0) (.bin .Add (.con (.int 14)) (.bin .Mult (.con (.int 2)) (.slot 4)))) (.slot 2))) (.cons (.asg (.name 8) (.bin .Mod (.idx (.slot 0) (.bin .Add (.con (.int 15)) (.bin .Mult (.con (.int 2)) (.slot 4)))) (.slot 2))) (.cons (.ite (.and (.cmp .Lt (.slot 6) (.slot 8)) (.cmp .Gt (.idx (.slot 0) (.bin .Add (.con (.int 15)) (.bin .Mult (.con (.int 2)) (.slot 4)))) (.con (.int 2)))) (.cons (.app 3 (.tup (.cons (.slot 6) (.cons (.slot 8) (.nil))))) (.nil)) (.nil)) (.nil)))))
      (.cons (.asg (.name 5) (.lst (.nil))) (.cons (.for_ (.name 6) (.rng1 (.slot 2)) (.cons (.for_ (.name 8) (.rng2 (.bin .Add (.slot 6) (.con (.int 1))) (.slot 2)) (.cons (.ite (.cmp .In (.tup (.cons (.slot 6) (.cons (.slot 8) (.nil)))) (.slot 3)) (.cons (.app 5 (.tup (.cons (.slot 6) (.cons (.slot 8) (.nil))))) (.nil)) (.nil)) (.nil))) (.nil))) (.cons (.ret (.lst (.cons (.slot 2) (.cons (.slot 5) (.nil))))) (.nil)))))
      [some R, some (.int mo), some (nD n), some (.lst .own (kn.map dP)), v4, none, none, v7, none] (fun _ => WebQ .non) WebQ := fun kn v4 v7 hk => by
    refine wp_for (ρ1 := [some R, some (.int mo), some (nD n), some (.lst .own (kn.map dP)), v4, none, none, v7, none]) (items := rngD 0 3)
      (fun i ρ => ∃ (kn : List (Int × Int)) (v4 v6 v8 : Option D), ρ = [some R, some (.int mo), some (nD n), some (.lst .own (kn.map dP)), v4, none, v6, v7, v8] ∧ kn.length ≤ 7 + i) (by simp only [ev_slot, ev_con, ev_bin, ev_un, ev_cmp, ev_chain, ev_and, ev_or, ev_not, ev_ite, ev_idx, ev_sl, ev_fld, ev_tup, ev_lst, ev_call, ev_mk, ev_blt, ev_isi, evs_nil, evs_cons, evT_nil, evT_one, evI_lst, evI_r1, evI_r2, evI_down, evI_enum, evI_zip, binG_i, binG_l, cmpG_i, cmpG_n, cmpG_tt, cmpG_ll, len_l, len_t, int_i, int_b, tuple_l, tuple_t, list_l, list_t, binD, cmpD, unD, isiD, kdD, isK, truD, test, kept, keptS, keptI, peek, peekS, frzL, frzAt_nil, frzAt_z, frzAt_n, frzAt_s, frz_int, frz_bl, frz_non, frz_tup, frz_objn, frz_ro, frz_own, frz_fz', List.getElem?_cons_zero, List.getElem?_cons_succ, List.nil_append, List.cons_append, Option.map_some, Option.map_none, Option.bind_some, List.set_cons_zero, List.set_cons_succ, List.set_nil, fz_int, fz_bl, fz_non, fz_tup, fz_lf, fz_lr, fz_lo, fz_on, D.scal, D.isN, Bool.and_true, Bool.true_and, Bool.and_self, Bool.not_true, Bool.not_false, if_true, if_false, Bool.false_eq_true, reduceIte, reduceCtorEq, seqD_l, seqD_t, frzS_ints, fzs_ints, List.length_map, Int.reduceLT, Int.reduceLE, Int.reduceNeg, Int.reduceToNat, Int.reduceAdd, Int.reduceSub, Int.reduceMul, Int.reducePow, decide_true, decide_false, Bool.or_true, Bool.true_or, Bool.or_false, Bool.false_or, Bool.false_and, Bool.and_false, ev_keep, roots]) (evI1 (evCon rfl) (by omega) (by omega)) ⟨kn, _, _, _, rfl, by omega⟩ ?_ ?_
    · rintro i d ρ hi ⟨kn, v4, v6, v8, rfl, hk⟩
      obtain ⟨hi, rfl⟩ := rng_get hi
      rw [show (0 : Int) + (i : Int) = (i : Int) by omega]
      refine ⟨_, rfl, ?_⟩
      have idx : ∀ (c : Int) (hc : 14 ≤ c ∧ c ≤ 15) (v6 v8 : Option D), ev G (.idx (.slot 0) (.bin .Add (.con (.int c)) (.bin .Mult (.con (.int 2)) (.slot 4)))) [some R, some (.int mo), some (nD n), some (.lst .own (kn.map dP)), some (nD i), none, v6, v7, v8] = some (.int (row.getD (c + 2 * (i : Int)).toNat 0), true) := fun c hc v6 v8 =>
        at_r _ rfl (evAdd (evCon rfl) (evMul (evCon (G := G) (d := .int 2) rfl) (x := 2) (y := (i : Int)) (evSl rfl) (mul_l _ (by omega) (by omega)))) (by omega) (by omega)
      refine wp_asg (ρ1 := [some R, some (.int mo), some (nD n), some (.lst .own (kn.map dP)), some (nD i), none, v6, v7, v8]) (by simp only [ev_slot, ev_con, ev_bin, ev_un, ev_cmp, ev_chain, ev_and, ev_or, ev_not, ev_ite, ev_idx, ev_sl, ev_fld, ev_tup, ev_lst, ev_call, ev_mk, ev_blt, ev_isi, evs_nil, evs_cons, evT_nil, evT_one, evI_lst, evI_r1, evI_r2, evI_down, evI_enum, evI_zip, binG_i, binG_l, cmpG_i, cmpG_n, cmpG_tt, cmpG_ll, len_l, len_t, int_i, int_b, tuple_l, tuple_t, list_l, list_t, binD, cmpD, unD, isiD, kdD, isK, truD, test, kept, keptS, keptI, peek, peekS, frzL, frzAt_nil, frzAt_z, frzAt_n, frzAt_s, frz_int, frz_bl, frz_non, frz_tup, frz_objn, frz_ro, frz_own, frz_fz', List.getElem?_cons_zero, List.getElem?_cons_succ, List.nil_append, List.cons_append, Option.map_some, Option.map_none, Option.bind_some, List.set_cons_zero, List.set_cons_succ, List.set_nil, fz_int, fz_bl, fz_non, fz_tup, fz_lf, fz_lr, fz_lo, fz_on, D.scal, D.isN, Bool.and_true, Bool.true_and, Bool.and_self, Bool.not_true, Bool.not_false, if_true, if_false, Bool.false_eq_true, reduceIte, reduceCtorEq, seqD_l, seqD_t, frzS_ints, fzs_ints, List.length_map, Int.reduceLT, Int.reduceLE, Int.reduceNeg, Int.reduceToNat, Int.reduceAdd, Int.reduceSub, Int.reduceMul, Int.reducePow, decide_true, decide_false, Bool.or_true, Bool.true_or, Bool.or_false, Bool.false_or, Bool.false_and, Bool.and_false, ev_keep, roots, fR, nD_frz]; try rfl) (evMod (idx 14 (by omega) _ _) (evSl rfl) (by omega)) rfl ?_
      refine wp_asg (ρ1 := [some R, some (.int mo), some (nD n), some (.lst .own (kn.map dP)), some (nD i), none, some (.int (row.getD (14 + 2 * (i : Int)).toNat 0 % (n : Int))), v7, v8]) (by simp only [ev_slot, ev_con, ev_bin, ev_un, ev_cmp, ev_chain, ev_and, ev_or, ev_not, ev_ite, ev_idx, ev_sl, ev_fld, ev_tup, ev_lst, ev_call, ev_mk, ev_blt, ev_isi, evs_nil, evs_cons, evT_nil, evT_one, evI_lst, evI_r1, evI_r2, evI_down, evI_enum, evI_zip, binG_i, binG_l, cmpG_i, cmpG_n, cmpG_tt, cmpG_ll, len_l, len_t, int_i, int_b, tuple_l, tuple_t, list_l, list_t, binD, cmpD, unD, isiD, kdD, isK, truD, test, kept, keptS, keptI, peek, peekS, frzL, frzAt_nil, frzAt_z, frzAt_n, frzAt_s, frz_int, frz_bl, frz_non, frz_tup, frz_objn, frz_ro, frz_own, frz_fz', List.getElem?_cons_zero, List.getElem?_cons_succ, List.nil_append, List.cons_append, Option.map_some, Option.map_none, Option.bind_some, List.set_cons_zero, List.set_cons_succ, List.set_nil, fz_int, fz_bl, fz_non, fz_tup, fz_lf, fz_lr, fz_lo, fz_on, D.scal, D.isN, Bool.and_true, Bool.true_and, Bool.and_self, Bool.not_true, Bool.not_false, if_true, if_false, Bool.false_eq_true, reduceIte, reduceCtorEq, seqD_l, seqD_t, frzS_ints, fzs_ints, List.length_map, Int.reduceLT, Int.reduceLE, Int.reduceNeg, Int.reduceToNat, Int.reduceAdd, Int.reduceSub, Int.reduceMul, Int.reducePow, decide_true, decide_false, Bool.or_true, Bool.true_or, Bool.or_false, Bool.false_or, Bool.false_and, Bool.and_false, ev_keep, roots, fR, nD_frz]; try rfl) (evMod (idx 15 (by omega) _ _) (evSl rfl) (by omega)) rfl ?_
      refine wp_if (ρ1 := [some R, some (.int mo), some (nD n), some (.lst .own (kn.map dP)), some (nD i), none, some (.int (row.getD (14 + 2 * (i : Int)).toNat 0 % (n : Int))), v7, some (.int (row.getD (15 + 2 * (i : Int)).toNat 0 % (n : Int)))]) (by simp only [ev_slot, ev_con, ev_bin, ev_un, ev_cmp, ev_chain, ev_and, ev_or, ev_not, ev_ite, ev_idx, ev_sl, ev_fld, ev_tup, ev_lst, ev_call, ev_mk, ev_blt, ev_isi, evs_nil, evs_cons, evT_nil, evT_one, evI_lst, evI_r1, evI_r2, evI_down, evI_enum, evI_zip, binG_i, binG_l, cmpG_i, cmpG_n, cmpG_tt, cmpG_ll, len_l, len_t, int_i, int_b, tuple_l, tuple_t, list_l, list_t, binD, cmpD, unD, isiD, kdD, isK, truD, test, kept, keptS, keptI, peek, peekS, frzL, frzAt_nil, frzAt_z, frzAt_n, frzAt_s, frz_int, frz_bl, frz_non, frz_tup, frz_objn, frz_ro, frz_own, frz_fz', List.getElem?_cons_zero, List.getElem?_cons_succ, List.nil_append, List.cons_append, Option.map_some, Option.map_none, Option.bind_some, List.set_cons_zero, List.set_cons_succ, List.set_nil, fz_int, fz_bl, fz_non, fz_tup, fz_lf, fz_lr, fz_lo, fz_on, D.scal, D.isN, Bool.and_true, Bool.true_and, Bool.and_self, Bool.not_true, Bool.not_false, if_true, if_false, Bool.false_eq_true, reduceIte, reduceCtorEq, seqD_l, seqD_t, frzS_ints, fzs_ints, List.length_map, Int.reduceLT, Int.reduceLE, Int.reduceNeg, Int.reduceToNat, Int.reduceAdd, Int.reduceSub, Int.reduceMul, Int.reducePow, decide_true, decide_false, Bool.or_true, Bool.true_or, Bool.or_false, Bool.false_or, Bool.false_and, Bool.and_false, ev_keep, roots, fR, nD_frz]; try rfl) (evAnd (evLt (evSl rfl) (evSl rfl)) (evGt (idx 15 (by omega) _ _) (evCon rfl))) ?_
      split
      · refine wp_app (ρ1 := [some R, some (.int mo), some (nD n), some (.lst .own (kn.map dP)), some (nD i), none, some (.int (row.getD (14 + 2 * (i : Int)).toNat 0 % (n : Int))), v7, some (.int (row.getD (15 + 2 * (i : Int)).toNat 0 % (n : Int)))]) (by simp only [ev_slot, ev_con, ev_bin, ev_un, ev_cmp, ev_chain, ev_and, ev_or, ev_not, ev_ite, ev_idx, ev_sl, ev_fld, ev_tup, ev_lst, ev_call, ev_mk, ev_blt, ev_isi, evs_nil, evs_cons, evT_nil, evT_one, evI_lst, evI_r1, evI_r2, evI_down, evI_enum, evI_zip, binG_i, binG_l, cmpG_i, cmpG_n, cmpG_tt, cmpG_ll, len_l, len_t, int_i, int_b, tuple_l, tuple_t, list_l, list_t, binD, cmpD, unD, isiD, kdD, isK, truD, test, kept, keptS, keptI, peek, peekS, frzL, frzAt_nil, frzAt_z, frzAt_n, frzAt_s, frz_int, frz_bl, frz_non, frz_tup, frz_objn, frz_ro, frz_own, frz_fz', List.getElem?_cons_zero, List.getElem?_cons_succ, List.nil_append, List.cons_append, Option.map_some, Option.map_none, Option.bind_some, List.set_cons_zero, List.set_cons_succ, List.set_nil, fz_int, fz_bl, fz_non, fz_tup, fz_lf, fz_lr, fz_lo, fz_on, D.scal, D.isN, Bool.and_true, Bool.true_and, Bool.and_self, Bool.not_true, Bool.not_false, if_true, if_false, Bool.false_eq_true, reduceIte, reduceCtorEq, seqD_l, seqD_t, frzS_ints, fzs_ints, List.length_map, Int.reduceLT, Int.reduceLE, Int.reduceNeg, Int.reduceToNat, Int.reduceAdd, Int.reduceSub, Int.reduceMul, Int.reducePow, decide_true, decide_false, Bool.or_true, Bool.true_or, Bool.or_false, Bool.false_or, Bool.false_and, Bool.and_false, ev_keep, roots, fR, nD_frz]; try rfl) (evPair (evSl rfl) (evSl rfl)) rfl (by rw [List.length_map]; unfold most; omega) (wp_nil (wp_nil ⟨_, _, _, _, by rw [app]; rfl, by rw [List.length_append, List.length_singleton]; omega⟩))
      · exact wp_nil (wp_nil ⟨_, _, _, _, rfl, by omega⟩)
    · rintro ρ ⟨kn, v4, v6, v8, rfl, hk⟩
      exact nested kn v4 v6 v7 v8
  refine wp_if (ρ1 := [some R, some (.int mo), some (nD n), some (.lst .own (kn.map dP)), v4, none, none, v7, none]) (by simp only [ev_slot, ev_con, ev_bin, ev_un, ev_cmp, ev_chain, ev_and, ev_or, ev_not, ev_ite, ev_idx, ev_sl, ev_fld, ev_tup, ev_lst, ev_call, ev_mk, ev_blt, ev_isi, evs_nil, evs_cons, evT_nil, evT_one, evI_lst, evI_r1, evI_r2, evI_down, evI_enum, evI_zip, binG_i, binG_l, cmpG_i, cmpG_n, cmpG_tt, cmpG_ll, len_l, len_t, int_i, int_b, tuple_l, tuple_t, list_l, list_t, binD, cmpD, unD, isiD, kdD, isK, truD, test, kept, keptS, keptI, peek, peekS, frzL, frzAt_nil, frzAt_z, frzAt_n, frzAt_s, frz_int, frz_bl, frz_non, frz_tup, frz_objn, frz_ro, frz_own, frz_fz', List.getElem?_cons_zero, List.getElem?_cons_succ, List.nil_append, List.cons_append, Option.map_some, Option.map_none, Option.bind_some, List.set_cons_zero, List.set_cons_succ, List.set_nil, fz_int, fz_bl, fz_non, fz_tup, fz_lf, fz_lr, fz_lo, fz_on, D.scal, D.isN, Bool.and_true, Bool.true_and, Bool.and_self, Bool.not_true, Bool.not_false, if_true, if_false, Bool.false_eq_true, reduceIte, reduceCtorEq, seqD_l, seqD_t, frzS_ints, fzs_ints, List.length_map, Int.reduceLT, Int.reduceLE, Int.reduceNeg, Int.reduceToNat, Int.reduceAdd, Int.reduceSub, Int.reduceMul, Int.reducePow, decide_true, decide_false, Bool.or_true, Bool.true_or, Bool.or_false, Bool.false_or, Bool.false_and, Bool.and_false, ev_keep, roots, fR, nD_frz]) (evAnd (evGt (evSl rfl) (evCon rfl)) (evLt (at13 _ rfl) (evCon rfl))) ?_
  split
  · refine wp_app (ρ1 := [some R, some (.int mo), some (nD n), some (.lst .own (kn.map dP)), v4, none, none, v7, none]) (by simp only [ev_slot, ev_con, ev_bin, ev_un, ev_cmp, ev_chain, ev_and, ev_or, ev_not, ev_ite, ev_idx, ev_sl, ev_fld, ev_tup, ev_lst, ev_call, ev_mk, ev_blt, ev_isi, evs_nil, evs_cons, evT_nil, evT_one, evI_lst, evI_r1, evI_r2, evI_down, evI_enum, evI_zip, binG_i, binG_l, cmpG_i, cmpG_n, cmpG_tt, cmpG_ll, len_l, len_t, int_i, int_b, tuple_l, tuple_t, list_l, list_t, binD, cmpD, unD, isiD, kdD, isK, truD, test, kept, keptS, keptI, peek, peekS, frzL, frzAt_nil, frzAt_z, frzAt_n, frzAt_s, frz_int, frz_bl, frz_non, frz_tup, frz_objn, frz_ro, frz_own, frz_fz', List.getElem?_cons_zero, List.getElem?_cons_succ, List.nil_append, List.cons_append, Option.map_some, Option.map_none, Option.bind_some, List.set_cons_zero, List.set_cons_succ, List.set_nil, fz_int, fz_bl, fz_non, fz_tup, fz_lf, fz_lr, fz_lo, fz_on, D.scal, D.isN, Bool.and_true, Bool.true_and, Bool.and_self, Bool.not_true, Bool.not_false, if_true, if_false, Bool.false_eq_true, reduceIte, reduceCtorEq, seqD_l, seqD_t, frzS_ints, fzs_ints, List.length_map, Int.reduceLT, Int.reduceLE, Int.reduceNeg, Int.reduceToNat, Int.reduceAdd, Int.reduceSub, Int.reduceMul, Int.reducePow, decide_true, decide_false, Bool.or_true, Bool.true_or, Bool.or_false, Bool.false_or, Bool.false_and, Bool.and_false, ev_keep, roots, fR, nD_frz]) (evPair (evCon rfl) (evSub (evSl rfl) (evCon rfl))) rfl (by rw [List.length_map]; unfold most; omega) (wp_nil ?_)
    rw [app]
    exact third _ _ _ (by rw [List.length_append, List.length_singleton]; omega)
  · exact wp_nil (third _ _ _ (by omega))
end
end P5

/-! M5k: lawpictures. -/
namespace P5
open PySem L2 Z Bt
def SceneQ (d : D) : Prop := ∃ (n : Nat) (ls : List (Nat × Nat)) (pic : List Nat), 1 ≤ n ∧ n ≤ 7 ∧ Lines n ls ∧ ls.length ≤ 49 ∧ pic.length = n ∧ (∀ s ∈ pic, s ≤ 2) ∧ d = .lst .own [nD n, .lst .fz (ls.map lineD), nsD pic]
section
variable {G : Gd} {ρ : Rho}
theorem evTupLc {a1 : D} {n : Nat} {elt : E} (hn : n ≤ 1000) (h1 : a1.fz = true) (h : ∀ k, k < n → ∃ s : Nat, s ≤ 2 ∧ ev G elt [some a1, some (nD n), some (nD k)] = some (nD s, true)) :
    ∃ pic : List Nat, pic.length = n ∧ (∀ s ∈ pic, s ≤ 2) ∧ ev G (.blt .tuple (.cons (.lc [2] elt (.name 2) (.rng1 (.slot 1)) (.nil)) (.nil))) [some a1, some (nD n), none] = some (nsD pic, true) := by
  have : ∃ pl : Nat → Nat, ∀ k, k < n → pl k ≤ 2 ∧ ev G elt [some a1, some (nD n), some (nD k)] = some (nD (pl k), true) := by
    classical
    refine ⟨fun k => if c : k < n then (h k c).choose else 0, fun k c => ?_⟩
    have e : (fun k => if c : k < n then (h k c).choose else 0) k = (h k c).choose := dif_pos c
    rw [e]
    exact (h k c).choose_spec
  obtain ⟨pl, hpl⟩ := this
  refine ⟨(List.range n).map pl, by simp, fun s hs => ?_, ?_⟩
  · obtain ⟨k, hk, rfl⟩ := List.mem_map.mp hs
    exact (hpl k (List.mem_range.mp hk)).1
  · have e : ev G (.lc [2] elt (.name 2) (.rng1 (.slot 1)) (.nil)) [some a1, some (nD n), none] = some (.lst .own (((List.range n).map pl).map nD), true) := by
      refine ev_lc (items := rngD 0 n) (evI1 (j := (n : Int)) (evSl rfl) (by omega) (by omega)) (by rw [rngD_len]; omega) ?_
      rw [rngD_map, List.map_map]
      refine compD_all _ _ fun k hk => ?_
      rw [show (0 : Int) + (k : Int) = (k : Int) by omega]
      exact lcF_yes (ρ' := [some a1, some (nD n), some (nD k)]) rfl evT_nil (hpl k (List.mem_range.mp hk)).2
    rw [ev_blt, evs_cons, evs_nil, e]
    show (if fzs (((List.range n).map pl).map nD) then some (D.tup (((List.range n).map pl).map nD)) else none).map _ = _
    rw [fzs_n]
    rfl
/-- _law_picture -/
theorem law_pic_ok {row : List Int} (hl : row.length = 9) (hd : ∀ k, 1 ≤ k → k < 9 → 0 ≤ row.getD k 0 ∧ row.getD k 0 < 3) {n : Nat} (hn : n ≤ 7) : ∃ pic : List Nat, pic.length = n ∧ (∀ s ∈ pic, s ≤ 2) ∧ runD G f18 [.lst .fz (row.map D.int), nD n] = some (nsD pic) := by
  generalize hR : D.lst .fz (row.map D.int) = R
  have fR : frz R = R := by rw [← hR]; show D.lst .fz (frzS _) = _; rw [frzS_ints]
  have zR : R.fz = true := by rw [← hR]; rfl
  have at_r : ∀ {ρ : Rho} {b : E} {j : Int} {g : Bool} (rest : Rho), ρ = some R :: rest → ev G b ρ = some (.int j, g) → 0 ≤ j → j < 9 → ev G (.idx (.slot 0) b) ρ = some (.int (row.getD j.toNat 0), true) := fun {ρ b j g} rest e hb h0 h1 => by
    subst e
    refine evAtI (m := .fz) (f := true) ?_ hb h0 (by rw [hl]; omega)
    rw [evSl rfl, zR, hR]
  let Q : D → Prop := fun d => ∃ pic : List Nat, pic.length = n ∧ (∀ s ∈ pic, s ≤ 2) ∧ d = nsD pic
  suffices key : Wp G b18 [some R, some (nD n), none] (fun _ => Q .non) Q by
    obtain ⟨d, e, pic, q1, q2, rfl⟩ := wp_def (G := G) (f := f18) (ds := [R, nD n]) (Q := Q) rfl key
    exact ⟨pic, q1, q2, e⟩
  unfold b18
  have r0 := at_r (ρ := [some R, some (nD n), none]) (b := .con (.int 0)) _ rfl (evCon rfl) (by omega) (by omega)
  have rk : ∀ (c : Int) (k : Nat), 1 ≤ c → c < 9 → ev G (.idx (.slot 0) (.con (.int c))) [some R, some (nD n), some (nD k)] = some (.int (row.getD c.toNat 0), true) := fun c k h1 h2 => at_r _ rfl (evCon rfl) (by omega) h2
  have nat3 : ∀ x : Int, ∃ s : Nat, s ≤ 2 ∧ D.int (x % 3) = nD s := fun x => ⟨(x % 3).toNat, by omega, by unfold nD; congr 1; omega⟩
  refine wp_if (ρ1 := [some R, some (nD n), none]) (by simp only [ev_slot, ev_con, ev_bin, ev_un, ev_cmp, ev_chain, ev_and, ev_or, ev_not, ev_ite, ev_idx, ev_sl, ev_fld, ev_tup, ev_lst, ev_call, ev_mk, ev_blt, ev_isi, evs_nil, evs_cons, evT_nil, evT_one, evI_lst, evI_r1, evI_r2, evI_down, evI_enum, evI_zip, binG_i, binG_l, cmpG_i, cmpG_n, cmpG_tt, cmpG_ll, len_l, len_t, int_i, int_b, tuple_l, tuple_t, list_l, list_t, binD, cmpD, unD, isiD, kdD, isK, truD, test, kept, keptS, keptI, peek, peekS, frzL, frzAt_nil, frzAt_z, frzAt_n, frzAt_s, frz_int, frz_bl, frz_non, frz_tup, frz_objn, frz_ro, frz_own, frz_fz', List.getElem?_cons_zero, List.getElem?_cons_succ, List.nil_append, List.cons_append, Option.map_some, Option.map_none, Option.bind_some, List.set_cons_zero, List.set_cons_succ, List.set_nil, fz_int, fz_bl, fz_non, fz_tup, fz_lf, fz_lr, fz_lo, fz_on, D.scal, D.isN, Bool.and_true, Bool.true_and, Bool.and_self, Bool.not_true, Bool.not_false, if_true, if_false, Bool.false_eq_true, reduceIte, reduceCtorEq, seqD_l, seqD_t, frzS_ints, fzs_ints, List.length_map, Int.reduceLT, Int.reduceLE, Int.reduceNeg, Int.reduceToNat, Int.reduceAdd, Int.reduceSub, Int.reduceMul, Int.reducePow, decide_true, decide_false, Bool.or_true, Bool.true_or, Bool.or_false, Bool.false_or, Bool.false_and, Bool.and_false, ev_keep, roots, fR]) (evAnd (evCmp r0 (evCon rfl) rfl) (evCmp r0 (evCon rfl) rfl)) ?_
  have fin : ∀ {e : E} {r : Ss} (h0 : frzL [some R, some (nD n), none] (kept e) = [some R, some (nD n), none]) (h : ∃ pic : List Nat, pic.length = n ∧ (∀ s ∈ pic, s ≤ 2) ∧ ev G e [some R, some (nD n), none] = some (nsD pic, true)) {P : Rho → Prop}, Wp G (.cons (.ret e) r) [some R, some (nD n), none] P Q := fun {e r} h0 h {P} => by
    obtain ⟨pic, q1, q2, q3⟩ := h
    exact wp_ret h0 q3 ⟨pic, q1, q2, rfl⟩
  split
  · refine fin (by simp only [ev_slot, ev_con, ev_bin, ev_un, ev_cmp, ev_chain, ev_and, ev_or, ev_not, ev_ite, ev_idx, ev_sl, ev_fld, ev_tup, ev_lst, ev_call, ev_mk, ev_blt, ev_isi, evs_nil, evs_cons, evT_nil, evT_one, evI_lst, evI_r1, evI_r2, evI_down, evI_enum, evI_zip, binG_i, binG_l, cmpG_i, cmpG_n, cmpG_tt, cmpG_ll, len_l, len_t, int_i, int_b, tuple_l, tuple_t, list_l, list_t, binD, cmpD, unD, isiD, kdD, isK, truD, test, kept, keptS, keptI, peek, peekS, frzL, frzAt_nil, frzAt_z, frzAt_n, frzAt_s, frz_int, frz_bl, frz_non, frz_tup, frz_objn, frz_ro, frz_own, frz_fz', List.getElem?_cons_zero, List.getElem?_cons_succ, List.nil_append, List.cons_append, Option.map_some, Option.map_none, Option.bind_some, List.set_cons_zero, List.set_cons_succ, List.set_nil, fz_int, fz_bl, fz_non, fz_tup, fz_lf, fz_lr, fz_lo, fz_on, D.scal, D.isN, Bool.and_true, Bool.true_and, Bool.and_self, Bool.not_true, Bool.not_false, if_true, if_false, Bool.false_eq_true, reduceIte, reduceCtorEq, seqD_l, seqD_t, frzS_ints, fzs_ints, List.length_map, Int.reduceLT, Int.reduceLE, Int.reduceNeg, Int.reduceToNat, Int.reduceAdd, Int.reduceSub, Int.reduceMul, Int.reducePow, decide_true, decide_false, Bool.or_true, Bool.true_or, Bool.or_false, Bool.false_or, Bool.false_and, Bool.and_false, ev_keep, roots, fR]) (evTupLc (by omega) zR fun k hk => ?_)
    obtain ⟨s, h1, h2⟩ := nat3 ((k : Int) + row.getD 1 0)
    exact ⟨s, h1, by rw [← h2]; exact evMod (evInt (evAdd (evSl rfl) (rk 1 k (by omega) (by omega)))) (evCon rfl) (by omega)⟩
  refine wp_nil (wp_if (ρ1 := [some R, some (nD n), none]) (by simp only [ev_slot, ev_con, ev_bin, ev_un, ev_cmp, ev_chain, ev_and, ev_or, ev_not, ev_ite, ev_idx, ev_sl, ev_fld, ev_tup, ev_lst, ev_call, ev_mk, ev_blt, ev_isi, evs_nil, evs_cons, evT_nil, evT_one, evI_lst, evI_r1, evI_r2, evI_down, evI_enum, evI_zip, binG_i, binG_l, cmpG_i, cmpG_n, cmpG_tt, cmpG_ll, len_l, len_t, int_i, int_b, tuple_l, tuple_t, list_l, list_t, binD, cmpD, unD, isiD, kdD, isK, truD, test, kept, keptS, keptI, peek, peekS, frzL, frzAt_nil, frzAt_z, frzAt_n, frzAt_s, frz_int, frz_bl, frz_non, frz_tup, frz_objn, frz_ro, frz_own, frz_fz', List.getElem?_cons_zero, List.getElem?_cons_succ, List.nil_append, List.cons_append, Option.map_some, Option.map_none, Option.bind_some, List.set_cons_zero, List.set_cons_succ, List.set_nil, fz_int, fz_bl, fz_non, fz_tup, fz_lf, fz_lr, fz_lo, fz_on, D.scal, D.isN, Bool.and_true, Bool.true_and, Bool.and_self, Bool.not_true, Bool.not_false, if_true, if_false, Bool.false_eq_true, reduceIte, reduceCtorEq, seqD_l, seqD_t, frzS_ints, fzs_ints, List.length_map, Int.reduceLT, Int.reduceLE, Int.reduceNeg, Int.reduceToNat, Int.reduceAdd, Int.reduceSub, Int.reduceMul, Int.reducePow, decide_true, decide_false, Bool.or_true, Bool.true_or, Bool.or_false, Bool.false_or, Bool.false_and, Bool.and_false, ev_keep, roots, fR]) (evCmp r0 (evCon rfl) rfl) ?_)
  split
  · refine fin (by simp only [ev_slot, ev_con, ev_bin, ev_un, ev_cmp, ev_chain, ev_and, ev_or, ev_not, ev_ite, ev_idx, ev_sl, ev_fld, ev_tup, ev_lst, ev_call, ev_mk, ev_blt, ev_isi, evs_nil, evs_cons, evT_nil, evT_one, evI_lst, evI_r1, evI_r2, evI_down, evI_enum, evI_zip, binG_i, binG_l, cmpG_i, cmpG_n, cmpG_tt, cmpG_ll, len_l, len_t, int_i, int_b, tuple_l, tuple_t, list_l, list_t, binD, cmpD, unD, isiD, kdD, isK, truD, test, kept, keptS, keptI, peek, peekS, frzL, frzAt_nil, frzAt_z, frzAt_n, frzAt_s, frz_int, frz_bl, frz_non, frz_tup, frz_objn, frz_ro, frz_own, frz_fz', List.getElem?_cons_zero, List.getElem?_cons_succ, List.nil_append, List.cons_append, Option.map_some, Option.map_none, Option.bind_some, List.set_cons_zero, List.set_cons_succ, List.set_nil, fz_int, fz_bl, fz_non, fz_tup, fz_lf, fz_lr, fz_lo, fz_on, D.scal, D.isN, Bool.and_true, Bool.true_and, Bool.and_self, Bool.not_true, Bool.not_false, if_true, if_false, Bool.false_eq_true, reduceIte, reduceCtorEq, seqD_l, seqD_t, frzS_ints, fzs_ints, List.length_map, Int.reduceLT, Int.reduceLE, Int.reduceNeg, Int.reduceToNat, Int.reduceAdd, Int.reduceSub, Int.reduceMul, Int.reducePow, decide_true, decide_false, Bool.or_true, Bool.true_or, Bool.or_false, Bool.false_or, Bool.false_and, Bool.and_false, ev_keep, roots, fR]) (evTupLc (by omega) zR fun k hk => ?_)
    obtain ⟨s, h1, h2⟩ := nat3 ((k : Int) + row.getD 1 0)
    have e1 : ev G (.bin .Mod (.blt .int (.cons (.bin .Add (.slot 2) (.idx (.slot 0) (.con (.int 1)))) (.nil))) (.con (.int 3))) [some R, some (nD n), some (nD k)] = some (nD s, true) := by
      rw [← h2]
      exact evMod (evInt (evAdd (evSl rfl) (rk 1 k (by omega) (by omega)))) (evCon rfl) (by omega)
    have e2 : ∃ t : Bool, ev G (.blt .int (.cons (.cmp .NotEq (.slot 2) (.bin .Add (.idx (.slot 0) (.con (.int 2))) (.con (.int 1)))) (.nil))) [some R, some (nD n), some (nD k)] = some (.int (if t then 1 else 0), true) := ⟨_, evIntB (evCmp (evSl rfl) (evAdd (rk 2 k (by omega) (by omega)) (evCon rfl)) rfl)⟩
    obtain ⟨t, e2⟩ := e2
    have e3 := evMul (x := (s : Int)) e1 e2 (mul_l _ (by omega) (by omega))
    cases t
    · exact ⟨0, by omega, by rw [e3]; simp [nD]⟩
    · exact ⟨s, h1, by rw [e3]; simp [nD]⟩
  refine wp_nil (wp_if (ρ1 := [some R, some (nD n), none]) (by simp only [ev_slot, ev_con, ev_bin, ev_un, ev_cmp, ev_chain, ev_and, ev_or, ev_not, ev_ite, ev_idx, ev_sl, ev_fld, ev_tup, ev_lst, ev_call, ev_mk, ev_blt, ev_isi, evs_nil, evs_cons, evT_nil, evT_one, evI_lst, evI_r1, evI_r2, evI_down, evI_enum, evI_zip, binG_i, binG_l, cmpG_i, cmpG_n, cmpG_tt, cmpG_ll, len_l, len_t, int_i, int_b, tuple_l, tuple_t, list_l, list_t, binD, cmpD, unD, isiD, kdD, isK, truD, test, kept, keptS, keptI, peek, peekS, frzL, frzAt_nil, frzAt_z, frzAt_n, frzAt_s, frz_int, frz_bl, frz_non, frz_tup, frz_objn, frz_ro, frz_own, frz_fz', List.getElem?_cons_zero, List.getElem?_cons_succ, List.nil_append, List.cons_append, Option.map_some, Option.map_none, Option.bind_some, List.set_cons_zero, List.set_cons_succ, List.set_nil, fz_int, fz_bl, fz_non, fz_tup, fz_lf, fz_lr, fz_lo, fz_on, D.scal, D.isN, Bool.and_true, Bool.true_and, Bool.and_self, Bool.not_true, Bool.not_false, if_true, if_false, Bool.false_eq_true, reduceIte, reduceCtorEq, seqD_l, seqD_t, frzS_ints, fzs_ints, List.length_map, Int.reduceLT, Int.reduceLE, Int.reduceNeg, Int.reduceToNat, Int.reduceAdd, Int.reduceSub, Int.reduceMul, Int.reducePow, decide_true, decide_false, Bool.or_true, Bool.true_or, Bool.or_false, Bool.false_or, Bool.false_and, Bool.and_false, ev_keep, roots, fR]) (evCmp r0 (evCon rfl) rfl) ?_)
  split
  · refine fin (by simp only [ev_slot, ev_con, ev_bin, ev_un, ev_cmp, ev_chain, ev_and, ev_or, ev_not, ev_ite, ev_idx, ev_sl, ev_fld, ev_tup, ev_lst, ev_call, ev_mk, ev_blt, ev_isi, evs_nil, evs_cons, evT_nil, evT_one, evI_lst, evI_r1, evI_r2, evI_down, evI_enum, evI_zip, binG_i, binG_l, cmpG_i, cmpG_n, cmpG_tt, cmpG_ll, len_l, len_t, int_i, int_b, tuple_l, tuple_t, list_l, list_t, binD, cmpD, unD, isiD, kdD, isK, truD, test, kept, keptS, keptI, peek, peekS, frzL, frzAt_nil, frzAt_z, frzAt_n, frzAt_s, frz_int, frz_bl, frz_non, frz_tup, frz_objn, frz_ro, frz_own, frz_fz', List.getElem?_cons_zero, List.getElem?_cons_succ, List.nil_append, List.cons_append, Option.map_some, Option.map_none, Option.bind_some, List.set_cons_zero, List.set_cons_succ, List.set_nil, fz_int, fz_bl, fz_non, fz_tup, fz_lf, fz_lr, fz_lo, fz_on, D.scal, D.isN, Bool.and_true, Bool.true_and, Bool.and_self, Bool.not_true, Bool.not_false, if_true, if_false, Bool.false_eq_true, reduceIte, reduceCtorEq, seqD_l, seqD_t, frzS_ints, fzs_ints, List.length_map, Int.reduceLT, Int.reduceLE, Int.reduceNeg, Int.reduceToNat, Int.reduceAdd, Int.reduceSub, Int.reduceMul, Int.reducePow, decide_true, decide_false, Bool.or_true, Bool.true_or, Bool.or_false, Bool.false_or, Bool.false_and, Bool.and_false, ev_keep, roots, fR]) (evTupLc (by omega) zR fun k hk => ?_)
    have e2 : ∃ t : Bool, ev G (.blt .int (.cons (.cmp .Eq (.slot 2) (.idx (.slot 0) (.con (.int 1)))) (.nil))) [some R, some (nD n), some (nD k)] = some (.int (if t then 1 else 0), true) := ⟨_, evIntB (evCmp (evSl rfl) (rk 1 k (by omega) (by omega)) rfl)⟩
    obtain ⟨t, e2⟩ := e2
    exact ⟨if t then 1 else 0, by split <;> omega, by rw [e2]; cases t <;> rfl⟩
  refine wp_nil (fin (by simp only [ev_slot, ev_con, ev_bin, ev_un, ev_cmp, ev_chain, ev_and, ev_or, ev_not, ev_ite, ev_idx, ev_sl, ev_fld, ev_tup, ev_lst, ev_call, ev_mk, ev_blt, ev_isi, evs_nil, evs_cons, evT_nil, evT_one, evI_lst, evI_r1, evI_r2, evI_down, evI_enum, evI_zip, binG_i, binG_l, cmpG_i, cmpG_n, cmpG_tt, cmpG_ll, len_l, len_t, int_i, int_b, tuple_l, tuple_t, list_l, list_t, binD, cmpD, unD, isiD, kdD, isK, truD, test, kept, keptS, keptI, peek, peekS, frzL, frzAt_nil, frzAt_z, frzAt_n, frzAt_s, frz_int, frz_bl, frz_non, frz_tup, frz_objn, frz_ro, frz_own, frz_fz', List.getElem?_cons_zero, List.getElem?_cons_succ, List.nil_append, List.cons_append, Option.map_some, Option.map_none, Option.bind_some, List.set_cons_zero, List.set_cons_succ, List.set_nil, fz_int, fz_bl, fz_non, fz_tup, fz_lf, fz_lr, fz_lo, fz_on, D.scal, D.isN, Bool.and_true, Bool.true_and, Bool.and_self, Bool.not_true, Bool.not_false, if_true, if_false, Bool.false_eq_true, reduceIte, reduceCtorEq, seqD_l, seqD_t, frzS_ints, fzs_ints, List.length_map, Int.reduceLT, Int.reduceLE, Int.reduceNeg, Int.reduceToNat, Int.reduceAdd, Int.reduceSub, Int.reduceMul, Int.reducePow, decide_true, decide_false, Bool.or_true, Bool.true_or, Bool.or_false, Bool.false_or, Bool.false_and, Bool.and_false, ev_keep, roots, fR]) (evTupLc (by omega) zR fun k hk => ?_))
  have e1 := at_r (ρ := [some R, some (nD n), some (nD k)]) _ rfl (evAdd (evCon (G := G) (d := .int 2) rfl) (evSl (i := 2) (d := nD k) rfl)) (by omega) (by omega)
  have h3 := hd (2 + k) (by omega) (by omega)
  rw [show ((2 : Int) + (k : Int)).toNat = 2 + k by omega] at e1
  exact ⟨(row.getD (2 + k) 0).toNat, by omega, by rw [e1]; show _ = some (D.int (((row.getD (2 + k) 0).toNat : Nat) : Int), true); rw [Int.toNat_of_nonneg h3.1]⟩
end
end P5

/-! M5l: lawscenes. -/
namespace P5
open PySem L2 Z Bt
/-- the law's own first helpers, at this depth -/
structure LwOk (G : Gd) : Prop where
  cell : ∀ (ns : List Int) (k : Int), 0 ≤ k → k < 100 → ∃ c, G.call 15 [.lst .ro (ns.map D.int), .int k] = some (.int c)
  digs : ∀ (c : Int) (ss : List Int), ss.all szB = true → ss.length ≤ 1000 → ∃ row : List Int, G.call 16 [.int c, .lst .fz (ss.map D.int)] = some (.lst .fz (row.map D.int)) ∧ Digs ss row ss.length
section
variable {G : Gd} {ρ : Rho}
/-- a drawn row: digits of a cell -/
theorem evRow (L : LwOk G) {ns : List Int} {i : Nat} {kx le : E} {k : Int} {ss : List Int} (hρ : ρ[i]? = some (some (.lst .ro (ns.map D.int)))) (hk : ev G kx ρ = some (.int k, true)) (h0 : 0 ≤ k) (h1 : k < 100) (hl : ev G le ρ = some (.lst .own (ss.map D.int), true)) (hs : ss.all szB = true) (hm : ss.length ≤ 1000) :
    ∃ row : List Int, ev G (.call 16 (.cons (.call 15 (.cons (.slot i) (.cons kx (.nil))) []) (.cons le (.nil))) []) ρ = some (.lst .fz (row.map D.int), true) ∧ Digs ss row ss.length := by
  obtain ⟨c, hc⟩ := L.cell ns k h0 h1
  obtain ⟨row, hr, hd⟩ := L.digs c ss hs hm
  have e1 : ev G (.call 15 (.cons (.slot i) (.cons kx (.nil))) []) ρ = some (.int c, true) := evCall2 (x := .lst .ro (ns.map D.int)) (evSl hρ) hk (by show G.call 15 [.lst .ro (frzS _), .int k] = _; rw [frzS_ints]; exact hc)
  exact ⟨row, evCall2 e1 hl (by show G.call 16 [.int c, .lst .fz (frzS _)] = _; rw [frzS_ints]; exact hr), hd⟩
/-- _law_scene -/
theorem law_scene_ok (L : LwOk G) (h17 : ∀ row : List Int, WRow row → ∀ mo : Int, 1 ≤ mo → mo ≤ 7 → ∃ (n : Nat) (ls : List (Nat × Nat)), 1 ≤ n ∧ n ≤ 7 ∧ Lines n ls ∧ ls.length ≤ 49 ∧ G.call 17 [.lst .fz (row.map D.int), .int mo] = some (.lst .own [nD n, .lst .fz (ls.map lineD)]))
    (h18 : ∀ row : List Int, row.length = 9 → (∀ k, 1 ≤ k → k < 9 → 0 ≤ row.getD k 0 ∧ row.getD k 0 < 3) → ∀ n : Nat, n ≤ 7 → ∃ pic : List Nat, pic.length = n ∧ (∀ s ∈ pic, s ≤ 2) ∧ G.call 18 [.lst .fz (row.map D.int), nD n] = some (nsD pic))
    (ns : List Int) (at_ mo : Int) (h0 : 0 ≤ at_) (h1 : at_ < 50) (hm : 1 ≤ mo) (h7 : mo ≤ 7) : ∃ d, runD G f19 [.lst .ro (ns.map D.int), .int at_, .int mo] = some d ∧ SceneQ d := by
  generalize hS : D.lst .ro (ns.map D.int) = Sc
  have fS : frz Sc = Sc := by rw [← hS]; show D.lst .ro (frzS _) = _; rw [frzS_ints]
  refine wp_def rfl ?_
  show Wp G b19 [some Sc, some (.int at_), some (.int mo), none, none] _ _
  unfold b19
  let ss1 : List Int := [12, 20, 6, 20, 6, 20, 6, 20, 6, 20, 6, 20, 6, 8, 8, 8, 8, 8, 8, 8]
  let ss2 : List Int := [10, 3, 3, 3, 3, 3, 3, 3, 3]
  obtain ⟨row, e1, d1⟩ := evRow (ρ := [some Sc, some (.int at_), some (.int mo), none, none]) L (ns := ns) (i := 0) (kx := .slot 1) (k := at_) (ss := ss1)
    (le := .bin .Add (.bin .Add (.bin .Add (.lst (.cons (.con (.int 12)) (.nil))) (.bin .Mult (.lst (.cons (.con (.int 20)) (.cons (.con (.int 6)) (.nil)))) (.con (.int 6)))) (.lst (.cons (.con (.int 8)) (.nil)))) (.bin .Mult (.lst (.cons (.con (.int 8)) (.cons (.con (.int 8)) (.nil)))) (.con (.int 3))))
    (by rw [← hS]; rfl) (evSl rfl) h0 (by omega)
    (evCat (xs := [12, 20, 6, 20, 6, 20, 6, 20, 6, 20, 6, 20, 6, 8]) (ys := [8, 8, 8, 8, 8, 8]) (evCat (xs := [12, 20, 6, 20, 6, 20, 6, 20, 6, 20, 6, 20, 6]) (ys := [8]) (evCat (xs := [12]) (ys := [20, 6, 20, 6, 20, 6, 20, 6, 20, 6, 20, 6]) (evLst (evsI_cons (evCon rfl) evsI_nil) (by simp)) (evRep (xs := [20, 6]) (k := 6) (evLst (evsI_cons (evCon rfl) (evsI_cons (evCon rfl) evsI_nil)) (by simp)) (evCon rfl) (by omega) (by decide)) (by decide)) (evLst (evsI_cons (evCon rfl) evsI_nil) (by simp)) (by decide)) (evRep (xs := [8, 8]) (k := 3) (evLst (evsI_cons (evCon rfl) (evsI_cons (evCon rfl) evsI_nil)) (by simp)) (evCon rfl) (by omega) (by decide)) (by decide)) (by decide) (by decide)
  have w1 : WRow row := ⟨d1.len, digs_get d1 (i := 0) rfl, fun k k1 k6 => by
    have : k = 1 ∨ k = 2 ∨ k = 3 ∨ k = 4 ∨ k = 5 ∨ k = 6 := by omega
    rcases this with rfl | rfl | rfl | rfl | rfl | rfl <;> exact digs_get d1 rfl⟩
  obtain ⟨n, ls, n1, n7, hls, h49, e2⟩ := h17 row w1 mo hm h7
  refine wp_asg (ρ1 := [some Sc, some (.int at_), some (.int mo), none, none]) (by simp only [ev_slot, ev_con, ev_bin, ev_un, ev_cmp, ev_chain, ev_and, ev_or, ev_not, ev_ite, ev_idx, ev_sl, ev_fld, ev_tup, ev_lst, ev_call, ev_mk, ev_blt, ev_isi, evs_nil, evs_cons, evT_nil, evT_one, evI_lst, evI_r1, evI_r2, evI_down, evI_enum, evI_zip, binG_i, binG_l, cmpG_i, cmpG_n, cmpG_tt, cmpG_ll, len_l, len_t, int_i, int_b, tuple_l, tuple_t, list_l, list_t, binD, cmpD, unD, isiD, kdD, isK, truD, test, kept, keptS, keptI, peek, peekS, frzL, frzAt_nil, frzAt_z, frzAt_n, frzAt_s, frz_int, frz_bl, frz_non, frz_tup, frz_objn, frz_ro, frz_own, frz_fz', List.getElem?_cons_zero, List.getElem?_cons_succ, List.nil_append, List.cons_append, Option.map_some, Option.map_none, Option.bind_some, List.set_cons_zero, List.set_cons_succ, List.set_nil, fz_int, fz_bl, fz_non, fz_tup, fz_lf, fz_lr, fz_lo, fz_on, D.scal, D.isN, Bool.and_true, Bool.true_and, Bool.and_self, Bool.not_true, Bool.not_false, if_true, if_false, Bool.false_eq_true, reduceIte, reduceCtorEq, seqD_l, seqD_t, frzS_ints, fzs_ints, List.length_map, Int.reduceLT, Int.reduceLE, Int.reduceNeg, Int.reduceToNat, Int.reduceAdd, Int.reduceSub, Int.reduceMul, Int.reducePow, decide_true, decide_false, Bool.or_true, Bool.true_or, Bool.or_false, Bool.false_or, Bool.false_and, Bool.and_false, ev_keep, roots, fS]) (d := .lst .own [nD n, .lst .fz (ls.map lineD)]) (evCall2 (y := .int mo) e1 (evSl rfl) (by show G.call 17 [.lst .fz (frzS _), .int mo] = _; rw [frzS_ints]; exact e2)) rfl ?_
  obtain ⟨row2, e3, d2⟩ := evRow (ρ := [some Sc, some (.int at_), some (.int mo), some (.lst .fz [nD n, .lst .fz (ls.map lineD)]), none]) L (ns := ns) (i := 0) (kx := .bin .Add (.slot 1) (.con (.int 1))) (k := at_ + 1) (ss := ss2)
    (le := .bin .Add (.lst (.cons (.con (.int 10)) (.cons (.con (.int 3)) (.nil)))) (.bin .Mult (.lst (.cons (.con (.int 3)) (.nil))) (.con (.int 7))))
    (by rw [← hS]; rfl) (evAdd (evSl rfl) (evCon rfl)) (by omega) (by omega)
    (evCat (xs := [10, 3]) (ys := [3, 3, 3, 3, 3, 3, 3]) (evLst (evsI_cons (evCon rfl) (evsI_cons (evCon rfl) evsI_nil)) (by simp)) (evRep (xs := [3]) (k := 7) (evLst (evsI_cons (evCon rfl) evsI_nil) (by simp)) (evCon rfl) (by omega) (by decide)) (by decide)) (by decide) (by decide)
  obtain ⟨pic, p1, p2, e4⟩ := h18 row2 d2.len (fun k k1 k9 => by
    have : k = 1 ∨ k = 2 ∨ k = 3 ∨ k = 4 ∨ k = 5 ∨ k = 6 ∨ k = 7 ∨ k = 8 := by omega
    rcases this with rfl | rfl | rfl | rfl | rfl | rfl | rfl | rfl <;> exact digs_get d2 rfl) n n7
  have i0 : ∀ v : Option D, ev G (.keep (.idx (.slot 3) (.con (.int 0)))) [some Sc, some (.int at_), some (.int mo), some (.lst .fz [nD n, .lst .fz (ls.map lineD)]), v] = some (nD n, true) := fun v => by
    rw [ev_keep, ev_idx, evSl rfl, evCon rfl]
    rfl
  have i1 : ∀ v : Option D, ev G (.keep (.idx (.slot 3) (.con (.int 1)))) [some Sc, some (.int at_), some (.int mo), some (.lst .fz [nD n, .lst .fz (ls.map lineD)]), v] = some (.lst .fz (ls.map lineD), true) := fun v => by
    rw [ev_keep, ev_idx, evSl rfl, evCon rfl]
    rfl
  have fz3 : frz (.lst .own [nD n, .lst .fz (ls.map lineD)]) = .lst .fz [nD n, .lst .fz (ls.map lineD)] := by
    show D.lst .fz [nD n, .lst .fz (frzS (ls.map lineD))] = _
    rw [frzS_line]
  have fz4 : frz (.lst .fz [nD n, .lst .fz (ls.map lineD)]) = .lst .fz [nD n, .lst .fz (ls.map lineD)] := by
    show D.lst .fz [nD n, .lst .fz (frzS (ls.map lineD))] = _
    rw [frzS_line]
  refine wp_asg (ρ1 := [some Sc, some (.int at_), some (.int mo), some (.lst .fz [nD n, .lst .fz (ls.map lineD)]), none]) (by simp only [ev_slot, ev_con, ev_bin, ev_un, ev_cmp, ev_chain, ev_and, ev_or, ev_not, ev_ite, ev_idx, ev_sl, ev_fld, ev_tup, ev_lst, ev_call, ev_mk, ev_blt, ev_isi, evs_nil, evs_cons, evT_nil, evT_one, evI_lst, evI_r1, evI_r2, evI_down, evI_enum, evI_zip, binG_i, binG_l, cmpG_i, cmpG_n, cmpG_tt, cmpG_ll, len_l, len_t, int_i, int_b, tuple_l, tuple_t, list_l, list_t, binD, cmpD, unD, isiD, kdD, isK, truD, test, kept, keptS, keptI, peek, peekS, frzL, frzAt_nil, frzAt_z, frzAt_n, frzAt_s, frz_int, frz_bl, frz_non, frz_tup, frz_objn, frz_ro, frz_own, frz_fz', List.getElem?_cons_zero, List.getElem?_cons_succ, List.nil_append, List.cons_append, Option.map_some, Option.map_none, Option.bind_some, List.set_cons_zero, List.set_cons_succ, List.set_nil, fz_int, fz_bl, fz_non, fz_tup, fz_lf, fz_lr, fz_lo, fz_on, D.scal, D.isN, Bool.and_true, Bool.true_and, Bool.and_self, Bool.not_true, Bool.not_false, if_true, if_false, Bool.false_eq_true, reduceIte, reduceCtorEq, seqD_l, seqD_t, frzS_ints, fzs_ints, List.length_map, Int.reduceLT, Int.reduceLE, Int.reduceNeg, Int.reduceToNat, Int.reduceAdd, Int.reduceSub, Int.reduceMul, Int.reducePow, decide_true, decide_false, Bool.or_true, Bool.true_or, Bool.or_false, Bool.false_or, Bool.false_and, Bool.and_false, ev_keep, roots, fS, fz3, fz4, frzS_cons', frzS_nil', frzS_line, nD_frz]) (d := nsD pic) (evCall2 e3 (i0 _) (by show G.call 18 [.lst .fz (frzS _), nD n] = _; rw [frzS_ints]; exact e4)) rfl ?_
  refine wp_ret (ρ1 := [some Sc, some (.int at_), some (.int mo), some (.lst .fz [nD n, .lst .fz (ls.map lineD)]), some (nsD pic)]) ?_ (d := .lst .own [nD n, .lst .fz (ls.map lineD), nsD pic]) ?_ ⟨n, ls, pic, n1, n7, hls, h49, p1, p2, rfl⟩
  · have : frz (nsD pic) = nsD pic := rfl
    simp only [ev_slot, ev_con, ev_bin, ev_un, ev_cmp, ev_chain, ev_and, ev_or, ev_not, ev_ite, ev_idx, ev_sl, ev_fld, ev_tup, ev_lst, ev_call, ev_mk, ev_blt, ev_isi, evs_nil, evs_cons, evT_nil, evT_one, evI_lst, evI_r1, evI_r2, evI_down, evI_enum, evI_zip, binG_i, binG_l, cmpG_i, cmpG_n, cmpG_tt, cmpG_ll, len_l, len_t, int_i, int_b, tuple_l, tuple_t, list_l, list_t, binD, cmpD, unD, isiD, kdD, isK, truD, test, kept, keptS, keptI, peek, peekS, frzL, frzAt_nil, frzAt_z, frzAt_n, frzAt_s, frz_int, frz_bl, frz_non, frz_tup, frz_objn, frz_ro, frz_own, frz_fz', List.getElem?_cons_zero, List.getElem?_cons_succ, List.nil_append, List.cons_append, Option.map_some, Option.map_none, Option.bind_some, List.set_cons_zero, List.set_cons_succ, List.set_nil, fz_int, fz_bl, fz_non, fz_tup, fz_lf, fz_lr, fz_lo, fz_on, D.scal, D.isN, Bool.and_true, Bool.true_and, Bool.and_self, Bool.not_true, Bool.not_false, if_true, if_false, Bool.false_eq_true, reduceIte, reduceCtorEq, seqD_l, seqD_t, frzS_ints, fzs_ints, List.length_map, Int.reduceLT, Int.reduceLE, Int.reduceNeg, Int.reduceToNat, Int.reduceAdd, Int.reduceSub, Int.reduceMul, Int.reducePow, decide_true, decide_false, Bool.or_true, Bool.true_or, Bool.or_false, Bool.false_or, Bool.false_and, Bool.and_false, ev_keep, roots, fS, fz3, fz4, this, frzS_cons', frzS_nil', frzS_line, nD_frz]
  · rw [ev_lst, evs_cons, evs_cons, evs_cons, evs_nil, i0, i1, evSl rfl]
    rfl
end
end P5

/-! M5m: lawnear. -/
namespace P5
open PySem L2 Z Bt
def rowL (l : List Nat) : D := .lst .own (l.map nD)
def rowF (l : List Nat) : D := .lst .fz (l.map nD)
theorem frzS_rowL (nr : List (List Nat)) : frzS (nr.map rowL) = nr.map rowF := by
  rw [frzS_map, List.map_map]
  refine List.map_congr_left fun l _ => ?_
  show D.lst .fz (frzS _) = _
  rw [frzS_n]
  rfl
theorem frzS_rowF (nr : List (List Nat)) : frzS (nr.map rowF) = nr.map rowF := by
  refine frzS_id fun d hd => ?_
  obtain ⟨l, _, rfl⟩ := List.mem_map.mp hd
  show D.lst .fz (frzS _) = _
  rw [frzS_n]
  rfl
theorem sort_n (l : List Nat) : ∃ l' : List Nat, ((∀ x, x ∈ l' ↔ x ∈ l) ∧ l'.length = l.length) ∧ ∀ (G : Gd) (m : M), bltG G .sorted [.lst m (l.map nD)] = some (rowL l') := by
  have p := srtI_perm (l.map fun k : Nat => (k : Int))
  have back : ∀ z ∈ srtI (l.map fun k : Nat => (k : Int)), ((z.toNat : Nat) : Int) = z := fun z hz => by
    obtain ⟨k, _, rfl⟩ := List.mem_map.mp (p.mem_iff.mp hz)
    rfl
  refine ⟨(srtI (l.map fun k : Nat => (k : Int))).map Int.toNat, ⟨fun x => ?_, by rw [List.length_map, p.length_eq, List.length_map]⟩, fun G m => ?_⟩
  · rw [List.mem_map]
    constructor
    · rintro ⟨z, hz, rfl⟩
      obtain ⟨k, hk, rfl⟩ := List.mem_map.mp (p.mem_iff.mp hz)
      exact hk
    · intro hx
      exact ⟨(x : Int), p.mem_iff.mpr (List.mem_map.mpr ⟨x, hx, rfl⟩), rfl⟩
  · have e : l.map nD = (l.map fun k : Nat => (k : Int)).map D.int := by rw [List.map_map]; rfl
    have e2 : lstI (.lst m (l.map nD)) = some (l.map fun k : Nat => (k : Int)) := by
      show intsOf (l.map nD) = _
      rw [e]
      generalize (l.map fun k : Nat => (k : Int)) = is
      induction is with
      | nil => rfl
      | cons i r ih => rw [List.map_cons]; simp only [intsOf, ih, Option.map_some]
    show (lstI (.lst m (l.map nD))).map (fun is => D.lst .own ((srtI is).map D.int)) = _
    rw [e2]
    show some (D.lst .own _) = some (D.lst .own _)
    congr 2
    rw [List.map_map]
    refine List.map_congr_left fun z hz => ?_
    show D.int z = D.int ((z.toNat : Nat) : Int)
    rw [back z hz]
theorem adj_snoc {ls : List (Nat × Nat)} {a b x y : Nat} : Adj (ls ++ [(a, b)]) x y ↔ Adj ls x y ∨ (x = a ∧ y = b) ∨ (x = b ∧ y = a) := by
  constructor
  · rintro ⟨p, hp, h⟩
    rcases List.mem_append.mp hp with hp | hp
    · exact .inl ⟨p, hp, h⟩
    · rw [List.mem_singleton.mp hp] at h
      right
      rcases h with ⟨rfl, rfl⟩ | ⟨rfl, rfl⟩
      · exact .inl ⟨rfl, rfl⟩
      · exact .inr ⟨rfl, rfl⟩
  · rintro (⟨p, hp, h⟩ | ⟨rfl, rfl⟩ | ⟨rfl, rfl⟩)
    · exact ⟨p, List.mem_append_left _ hp, h⟩
    · exact ⟨(x, y), List.mem_append_right _ (List.mem_singleton.mpr rfl), .inl ⟨rfl, rfl⟩⟩
    · exact ⟨(y, x), List.mem_append_right _ (List.mem_singleton.mpr rfl), .inr ⟨rfl, rfl⟩⟩
def NearQ (n : Nat) (ls : List (Nat × Nat)) (d : D) : Prop := ∃ nr : List (List Nat), nr.length = n ∧ (∀ a l, nr[a]? = some l → ∀ b, b ∈ l ↔ Adj ls a b) ∧ (∀ l ∈ nr, l.length ≤ 1000) ∧ d = .lst .own (nr.map rowL)
section
variable {G : Gd} {ρ : Rho}
theorem evLine (k : Nat) {i : Nat} {a b : Nat} (h : ρ[i]? = some (some (lineD (a, b)))) : ev G (.idx (.slot i) (.con (.int 0))) ρ = some (nD a, true) ∧ ev G (.idx (.slot i) (.con (.int 1))) ρ = some (nD b, true) := by
  constructor <;> (rw [ev_idx, evSl h, evCon rfl]; rfl)
/-- _law_near -/
theorem law_near_ok {n : Nat} (hn : n ≤ 7) {ls : List (Nat × Nat)} (hl : Lines n ls) (h64 : ls.length ≤ 100) : ∃ d, runD G f20 [nD n, .lst .fz (ls.map lineD)] = some d ∧ NearQ n ls d := by
  have fL : frz (D.lst .fz (ls.map lineD)) = .lst .fz (ls.map lineD) := by show D.lst .fz (frzS _) = _; rw [frzS_line]
  generalize hP : D.lst .fz (ls.map lineD) = P at *
  refine wp_def rfl ?_
  show Wp G b20 [some (nD n), some P, none, none, none, none] _ _
  unfold b20
  refine wp_asg (ρ1 := [some (nD n), some P, none, none, none, none]) (by simp only [ev_slot, ev_con, ev_bin, ev_un, ev_cmp, ev_chain, ev_and, ev_or, ev_not, ev_ite, ev_idx, ev_sl, ev_fld, ev_tup, ev_lst, ev_call, ev_mk, ev_blt, ev_isi, evs_nil, evs_cons, evT_nil, evT_one, evI_lst, evI_r1, evI_r2, evI_down, evI_enum, evI_zip, binG_i, binG_l, cmpG_i, cmpG_n, cmpG_tt, cmpG_ll, len_l, len_t, int_i, int_b, tuple_l, tuple_t, list_l, list_t, binD, cmpD, unD, isiD, kdD, isK, truD, test, kept, keptS, keptI, peek, peekS, frzL, frzAt_nil, frzAt_z, frzAt_n, frzAt_s, frz_int, frz_bl, frz_non, frz_tup, frz_objn, frz_ro, frz_own, frz_fz', List.getElem?_cons_zero, List.getElem?_cons_succ, List.nil_append, List.cons_append, Option.map_some, Option.map_none, Option.bind_some, List.set_cons_zero, List.set_cons_succ, List.set_nil, fz_int, fz_bl, fz_non, fz_tup, fz_lf, fz_lr, fz_lo, fz_on, D.scal, D.isN, Bool.and_true, Bool.true_and, Bool.and_self, Bool.not_true, Bool.not_false, if_true, if_false, Bool.false_eq_true, reduceIte, reduceCtorEq, seqD_l, seqD_t, frzS_ints, fzs_ints, List.length_map, Int.reduceLT, Int.reduceLE, Int.reduceNeg, Int.reduceToNat, Int.reduceAdd, Int.reduceSub, Int.reduceMul, Int.reducePow, decide_true, decide_false, Bool.or_true, Bool.true_or, Bool.or_false, Bool.false_or, Bool.false_and, Bool.and_false, ev_keep, roots, nD_frz]; try rfl) (d := .lst .own ((List.replicate n []).map rowL)) ?_ rfl ?_
  · refine ev_lc (items := rngD 0 n) (evI1 (j := (n : Int)) (evSl rfl) (by omega) (by omega)) (by rw [rngD_len]; omega) ?_
    rw [rngD_map]
    have e : (List.replicate n ([] : List Nat)).map rowL = (List.range n).map fun _ => rowL [] := by
      rw [List.map_replicate, List.map_const', List.length_range]
    rw [e]
    refine compD_all _ _ fun k hk => ?_
    exact lcF_yes (ρ' := [some (nD n), some P, none, none, some (.int (0 + (k : Nat))), none]) rfl evT_nil (evLst (ns := []) evsI_nil (by simp))
  refine wp_for (ρ1 := [some (nD n), some P, some (.lst .own ((List.replicate n []).map rowL)), none, none, none]) (items := ls.map lineD)
    (fun i ρ => ∃ (nr : List (List Nat)) (v3 : Option D), ρ = [some (nD n), some P, some (.lst .own (nr.map rowL)), v3, none, none] ∧ nr.length = n ∧ (∀ a l, nr[a]? = some l → ∀ b, b ∈ l ↔ Adj (ls.take i) a b) ∧ ∀ l ∈ nr, l.length ≤ 2 * i)
    (by simp only [ev_slot, ev_con, ev_bin, ev_un, ev_cmp, ev_chain, ev_and, ev_or, ev_not, ev_ite, ev_idx, ev_sl, ev_fld, ev_tup, ev_lst, ev_call, ev_mk, ev_blt, ev_isi, evs_nil, evs_cons, evT_nil, evT_one, evI_lst, evI_r1, evI_r2, evI_down, evI_enum, evI_zip, binG_i, binG_l, cmpG_i, cmpG_n, cmpG_tt, cmpG_ll, len_l, len_t, int_i, int_b, tuple_l, tuple_t, list_l, list_t, binD, cmpD, unD, isiD, kdD, isK, truD, test, kept, keptS, keptI, peek, peekS, frzL, frzAt_nil, frzAt_z, frzAt_n, frzAt_s, frz_int, frz_bl, frz_non, frz_tup, frz_objn, frz_ro, frz_own, frz_fz', List.getElem?_cons_zero, List.getElem?_cons_succ, List.nil_append, List.cons_append, Option.map_some, Option.map_none, Option.bind_some, List.set_cons_zero, List.set_cons_succ, List.set_nil, fz_int, fz_bl, fz_non, fz_tup, fz_lf, fz_lr, fz_lo, fz_on, D.scal, D.isN, Bool.and_true, Bool.true_and, Bool.and_self, Bool.not_true, Bool.not_false, if_true, if_false, Bool.false_eq_true, reduceIte, reduceCtorEq, seqD_l, seqD_t, frzS_ints, fzs_ints, List.length_map, Int.reduceLT, Int.reduceLE, Int.reduceNeg, Int.reduceToNat, Int.reduceAdd, Int.reduceSub, Int.reduceMul, Int.reducePow, decide_true, decide_false, Bool.or_true, Bool.true_or, Bool.or_false, Bool.false_or, Bool.false_and, Bool.and_false, ev_keep, roots, nD_frz, fL]; try rfl) (by rw [evI_lst, evSl rfl, ← hP]; show seqD (.lst .fz (frzS _)) = _; rw [frzS_line]; rfl) (by
      refine ⟨List.replicate n [], none, rfl, by simp, fun a l h b => ?_, fun l hl => ?_⟩
      · rw [List.getElem?_replicate] at h
        split at h
        · cases h
          simp [Adj]
        · cases h
      · rw [(List.mem_replicate.mp hl).2]
        simp) ?_ ?_
  · rintro i d ρ hi ⟨nr, v3, rfl, h1, h2, h3⟩
    rw [List.getElem?_map] at hi
    obtain ⟨⟨a, b⟩, hp, rfl⟩ := Option.map_eq_some_iff.mp hi
    have hil := (List.getElem?_eq_some_iff.mp hp).1
    obtain ⟨q1, q2⟩ := hl.lt _ (List.mem_of_getElem? hp)
    dsimp only at q1 q2
    have ha : a < nr.length := by omega
    have hb : b < nr.length := by omega
    obtain ⟨la, ela⟩ : ∃ la, nr[a]? = some la := ⟨_, List.getElem?_eq_getElem ha⟩
    obtain ⟨lb, elb⟩ : ∃ lb, nr[b]? = some lb := ⟨_, List.getElem?_eq_getElem hb⟩
    have la2 := h3 la (List.mem_of_getElem? ela)
    have lb2 := h3 lb (List.mem_of_getElem? elb)
    refine ⟨_, rfl, ?_⟩
    have fl : ∀ p, frz (lineD p) = lineD p := fun _ => rfl
    refine wp_app2 (ρ1 := [some (nD n), some P, some (.lst .own (nr.map rowL)), some (lineD (a, b)), none, none]) (d := nD b) (j := (a : Int)) (f := true) (ds := nr.map rowL) (es := la.map nD) (by simp only [ev_slot, ev_con, ev_bin, ev_un, ev_cmp, ev_chain, ev_and, ev_or, ev_not, ev_ite, ev_idx, ev_sl, ev_fld, ev_tup, ev_lst, ev_call, ev_mk, ev_blt, ev_isi, evs_nil, evs_cons, evT_nil, evT_one, evI_lst, evI_r1, evI_r2, evI_down, evI_enum, evI_zip, binG_i, binG_l, cmpG_i, cmpG_n, cmpG_tt, cmpG_ll, len_l, len_t, int_i, int_b, tuple_l, tuple_t, list_l, list_t, binD, cmpD, unD, isiD, kdD, isK, truD, test, kept, keptS, keptI, peek, peekS, frzL, frzAt_nil, frzAt_z, frzAt_n, frzAt_s, frz_int, frz_bl, frz_non, frz_tup, frz_objn, frz_ro, frz_own, frz_fz', List.getElem?_cons_zero, List.getElem?_cons_succ, List.nil_append, List.cons_append, Option.map_some, Option.map_none, Option.bind_some, List.set_cons_zero, List.set_cons_succ, List.set_nil, fz_int, fz_bl, fz_non, fz_tup, fz_lf, fz_lr, fz_lo, fz_on, D.scal, D.isN, Bool.and_true, Bool.true_and, Bool.and_self, Bool.not_true, Bool.not_false, if_true, if_false, Bool.false_eq_true, reduceIte, reduceCtorEq, seqD_l, seqD_t, frzS_ints, fzs_ints, List.length_map, Int.reduceLT, Int.reduceLE, Int.reduceNeg, Int.reduceToNat, Int.reduceAdd, Int.reduceSub, Int.reduceMul, Int.reducePow, decide_true, decide_false, Bool.or_true, Bool.true_or, Bool.or_false, Bool.false_or, Bool.false_and, Bool.and_false, ev_keep, roots, fl]; try rfl) (evLine 0 rfl).2 (evLine 0 rfl).1 rfl (by rw [Int.toNat_natCast, List.getElem?_map, ela]; rfl) rfl (by omega) (by rw [List.length_map]; unfold most; omega) ?_
    have e1 : (nr.map rowL).set (a : Int).toNat (.lst .own (la.map nD ++ [nD b])) = (nr.set a (la ++ [b])).map rowL := by rw [Int.toNat_natCast, List.map_set]; unfold rowL; rw [List.map_append]; rfl
    rw [e1]
    have elb' : (nr.set a (la ++ [b]))[b]? = some lb := by rw [List.getElem?_set_ne (by omega)]; exact elb
    refine wp_app2 (ρ1 := [some (nD n), some P, some (.lst .own ((nr.set a (la ++ [b])).map rowL)), some (lineD (a, b)), none, none]) (d := nD a) (j := (b : Int)) (f := true) (ds := (nr.set a (la ++ [b])).map rowL) (es := lb.map nD) (by simp only [ev_slot, ev_con, ev_bin, ev_un, ev_cmp, ev_chain, ev_and, ev_or, ev_not, ev_ite, ev_idx, ev_sl, ev_fld, ev_tup, ev_lst, ev_call, ev_mk, ev_blt, ev_isi, evs_nil, evs_cons, evT_nil, evT_one, evI_lst, evI_r1, evI_r2, evI_down, evI_enum, evI_zip, binG_i, binG_l, cmpG_i, cmpG_n, cmpG_tt, cmpG_ll, len_l, len_t, int_i, int_b, tuple_l, tuple_t, list_l, list_t, binD, cmpD, unD, isiD, kdD, isK, truD, test, kept, keptS, keptI, peek, peekS, frzL, frzAt_nil, frzAt_z, frzAt_n, frzAt_s, frz_int, frz_bl, frz_non, frz_tup, frz_objn, frz_ro, frz_own, frz_fz', List.getElem?_cons_zero, List.getElem?_cons_succ, List.nil_append, List.cons_append, Option.map_some, Option.map_none, Option.bind_some, List.set_cons_zero, List.set_cons_succ, List.set_nil, fz_int, fz_bl, fz_non, fz_tup, fz_lf, fz_lr, fz_lo, fz_on, D.scal, D.isN, Bool.and_true, Bool.true_and, Bool.and_self, Bool.not_true, Bool.not_false, if_true, if_false, Bool.false_eq_true, reduceIte, reduceCtorEq, seqD_l, seqD_t, frzS_ints, fzs_ints, List.length_map, Int.reduceLT, Int.reduceLE, Int.reduceNeg, Int.reduceToNat, Int.reduceAdd, Int.reduceSub, Int.reduceMul, Int.reducePow, decide_true, decide_false, Bool.or_true, Bool.true_or, Bool.or_false, Bool.false_or, Bool.false_and, Bool.and_false, ev_keep, roots, fl]; try rfl) (evLine 0 rfl).1 (evLine 0 rfl).2 rfl (by rw [Int.toNat_natCast, List.getElem?_map, elb']; rfl) rfl (by omega) (by rw [List.length_map]; unfold most; omega) ?_
    have e2g : ∀ z : List (List Nat), (z.map rowL).set (b : Int).toNat (.lst .own (lb.map nD ++ [nD a])) = (z.set b (lb ++ [a])).map rowL := fun z => by rw [Int.toNat_natCast, List.map_set]; unfold rowL; rw [List.map_append]; rfl
    have e2 := e2g (nr.set a (la ++ [b]))
    rw [e2]
    refine wp_nil ⟨(nr.set a (la ++ [b])).set b (lb ++ [a]), _, rfl, by rw [List.length_set, List.length_set, h1], fun x l hx y => ?_, fun l hl => ?_⟩
    · rw [take_succ' hp, adj_snoc]
      by_cases xb : x = b
      · subst xb
        rw [List.getElem?_set_self (by rw [List.length_set]; omega)] at hx
        cases hx
        rw [List.mem_append, List.mem_singleton, h2 x lb elb y]
        constructor
        · rintro (h | rfl)
          · exact .inl h
          · exact .inr (.inr ⟨rfl, rfl⟩)
        · rintro (h | ⟨h, _⟩ | ⟨_, rfl⟩)
          · exact .inl h
          · omega
          · exact .inr rfl
      · rw [List.getElem?_set_ne (Ne.symm xb)] at hx
        by_cases xa : x = a
        · subst xa
          rw [List.getElem?_set_self ha] at hx
          cases hx
          rw [List.mem_append, List.mem_singleton, h2 x la ela y]
          constructor
          · rintro (h | rfl)
            · exact .inl h
            · exact .inr (.inl ⟨rfl, rfl⟩)
          · rintro (h | ⟨_, rfl⟩ | ⟨h, _⟩)
            · exact .inl h
            · exact .inr rfl
            · omega
        · rw [List.getElem?_set_ne (Ne.symm xa)] at hx
          rw [h2 x l hx y]
          constructor
          · exact .inl
          · rintro (h | ⟨h, _⟩ | ⟨h, _⟩)
            · exact h
            · exact absurd h xa
            · exact absurd h xb
    · rcases List.mem_or_eq_of_mem_set hl with hl | rfl
      · rcases List.mem_or_eq_of_mem_set hl with hl | rfl
        · have := h3 l hl
          omega
        · rw [List.length_append, List.length_singleton]
          omega
      · rw [List.length_append, List.length_singleton]
        omega
  · rw [List.length_map, List.take_length]
    rintro ρ ⟨nr, v3, rfl, h1, h2, h3⟩
    have : ∃ f : List Nat → List Nat, ∀ l, ((∀ x, x ∈ f l ↔ x ∈ l) ∧ (f l).length = l.length) ∧ ∀ (G : Gd) (m : M), bltG G .sorted [.lst m (l.map nD)] = some (rowL (f l)) := ⟨fun l => (sort_n l).choose, fun l => (sort_n l).choose_spec⟩
    obtain ⟨f, hf⟩ := this
    refine wp_ret (ρ1 := [some (nD n), some P, some (.lst .fz (nr.map rowF)), v3, none, none]) (by simp only [ev_slot, ev_con, ev_bin, ev_un, ev_cmp, ev_chain, ev_and, ev_or, ev_not, ev_ite, ev_idx, ev_sl, ev_fld, ev_tup, ev_lst, ev_call, ev_mk, ev_blt, ev_isi, evs_nil, evs_cons, evT_nil, evT_one, evI_lst, evI_r1, evI_r2, evI_down, evI_enum, evI_zip, binG_i, binG_l, cmpG_i, cmpG_n, cmpG_tt, cmpG_ll, len_l, len_t, int_i, int_b, tuple_l, tuple_t, list_l, list_t, binD, cmpD, unD, isiD, kdD, isK, truD, test, kept, keptS, keptI, peek, peekS, frzL, frzAt_nil, frzAt_z, frzAt_n, frzAt_s, frz_int, frz_bl, frz_non, frz_tup, frz_objn, frz_ro, frz_own, frz_fz', List.getElem?_cons_zero, List.getElem?_cons_succ, List.nil_append, List.cons_append, Option.map_some, Option.map_none, Option.bind_some, List.set_cons_zero, List.set_cons_succ, List.set_nil, fz_int, fz_bl, fz_non, fz_tup, fz_lf, fz_lr, fz_lo, fz_on, D.scal, D.isN, Bool.and_true, Bool.true_and, Bool.and_self, Bool.not_true, Bool.not_false, if_true, if_false, Bool.false_eq_true, reduceIte, reduceCtorEq, seqD_l, seqD_t, frzS_ints, fzs_ints, List.length_map, Int.reduceLT, Int.reduceLE, Int.reduceNeg, Int.reduceToNat, Int.reduceAdd, Int.reduceSub, Int.reduceMul, Int.reducePow, decide_true, decide_false, Bool.or_true, Bool.true_or, Bool.or_false, Bool.false_or, Bool.false_and, Bool.and_false, ev_keep, roots, frzS_rowL]; try rfl) (d := .lst .own ((nr.map f).map rowL)) ?_ ⟨nr.map f, by rw [List.length_map, h1], fun a l h b => ?_, fun l hl => ?_, rfl⟩
    · refine ev_lc (items := nr.map rowF) ?_ (by rw [List.length_map]; omega) ?_
      · rw [evI_lst, evSl rfl]
        show seqD (.lst .fz (frzS _)) = _
        rw [frzS_rowF]
        rfl
      · rw [List.map_map]
        refine compD_all _ _ fun l hl => ?_
        refine lcF_yes (ρ' := [some (nD n), some P, some (.lst .fz (nr.map rowF)), v3, none, some (rowF l)]) rfl evT_nil ?_
        rw [ev_blt, evs_cons, evs_nil, evSl rfl]
        show (bltG G .sorted [.lst .fz (l.map nD)]).map _ = _
        rw [(hf l).2]
        rfl
    · rw [List.getElem?_map] at h
      obtain ⟨l0, h4, rfl⟩ := Option.map_eq_some_iff.mp h
      rw [(hf l0).1.1]
      exact h2 a l0 h4 b
    · obtain ⟨l0, h4, rfl⟩ := List.mem_map.mp hl
      rw [(hf l0).1.2]
      have := h3 l0 h4
      omega
end
end P5

/-! M5n: lawstep. -/
namespace P5
open PySem L2 Z Bt
section
variable {G : Gd} {ρ : Rho}
/-- _law_step -/
theorem law_step_ok {n : Nat} (hn : n ≤ 7) {ls : List (Nat × Nat)} (hl : Lines n ls) {nr : List (List Nat)} (h1 : nr.length = n) (h2 : ∀ a l, nr[a]? = some l → ∀ b, b ∈ l ↔ Adj ls a b) (h3 : ∀ l ∈ nr, l.length ≤ 1000) {pic : List Nat} (hp : pic.length = n) (hs : ∀ s ∈ pic, s ≤ 2) (is : List Int) :
    runD G f21 [.lst .fz (nr.map rowF), nsD pic, .lst .fz (is.map D.int)] = some (nsD (nxt n ls pic is)) := by
  generalize hN : D.lst .fz (nr.map rowF) = N
  generalize hK : D.lst .fz (is.map D.int) = K
  have fN : frz N = N := by rw [← hN]; show D.lst .fz (frzS _) = _; rw [frzS_rowF]
  have fK : frz K = K := by rw [← hK]; show D.lst .fz (frzS _) = _; rw [frzS_ints]
  have zN : N.fz = true := by rw [← hN]; rfl
  have fp : frz (nsD pic) = nsD pic := rfl
  let Q : D → Prop := fun d => d = nsD (nxt n ls pic is)
  suffices key : Wp G b21 [some N, some (nsD pic), some K, none, none, none, none, none] (fun _ => Q .non) Q by
    obtain ⟨d, e, rfl⟩ := wp_def (G := G) (f := f21) (ds := [N, nsD pic, K]) (Q := Q) rfl key
    exact e
  unfold b21
  have nl : (nxt n ls pic is).length = n := by unfold nxt; simp
  refine wp_asg (ρ1 := [some N, some (nsD pic), some K, none, none, none, none, none]) (by simp only [ev_slot, ev_con, ev_bin, ev_un, ev_cmp, ev_chain, ev_and, ev_or, ev_not, ev_ite, ev_idx, ev_sl, ev_fld, ev_tup, ev_lst, ev_call, ev_mk, ev_blt, ev_isi, evs_nil, evs_cons, evT_nil, evT_one, evI_lst, evI_r1, evI_r2, evI_down, evI_enum, evI_zip, binG_i, binG_l, cmpG_i, cmpG_n, cmpG_tt, cmpG_ll, len_l, len_t, int_i, int_b, tuple_l, tuple_t, list_l, list_t, binD, cmpD, unD, isiD, kdD, isK, truD, test, kept, keptS, keptI, peek, peekS, frzL, frzAt_nil, frzAt_z, frzAt_n, frzAt_s, frz_int, frz_bl, frz_non, frz_tup, frz_objn, frz_ro, frz_own, frz_fz', List.getElem?_cons_zero, List.getElem?_cons_succ, List.nil_append, List.cons_append, Option.map_some, Option.map_none, Option.bind_some, List.set_cons_zero, List.set_cons_succ, List.set_nil, fz_int, fz_bl, fz_non, fz_tup, fz_lf, fz_lr, fz_lo, fz_on, D.scal, D.isN, Bool.and_true, Bool.true_and, Bool.and_self, Bool.not_true, Bool.not_false, if_true, if_false, Bool.false_eq_true, reduceIte, reduceCtorEq, seqD_l, seqD_t, frzS_ints, fzs_ints, List.length_map, Int.reduceLT, Int.reduceLE, Int.reduceNeg, Int.reduceToNat, Int.reduceAdd, Int.reduceSub, Int.reduceMul, Int.reducePow, decide_true, decide_false, Bool.or_true, Bool.true_or, Bool.or_false, Bool.false_or, Bool.false_and, Bool.and_false, ev_keep, roots]) (d := .lst .own (((nxt n ls pic is).take 0).map nD)) (evLst (ns := []) evsI_nil (by simp)) rfl ?_
  refine wp_for (ρ1 := [some N, some (nsD pic), some K, some (.lst .own (((nxt n ls pic is).take 0).map nD)), none, none, none, none]) (items := rngD 0 n)
    (fun i ρ => ∃ v4 v5 v6 v7 : Option D, ρ = [some N, some (nsD pic), some K, some (.lst .own (((nxt n ls pic is).take i).map nD)), v4, v5, v6, v7]) (by simp only [ev_slot, ev_con, ev_bin, ev_un, ev_cmp, ev_chain, ev_and, ev_or, ev_not, ev_ite, ev_idx, ev_sl, ev_fld, ev_tup, ev_lst, ev_call, ev_mk, ev_blt, ev_isi, evs_nil, evs_cons, evT_nil, evT_one, evI_lst, evI_r1, evI_r2, evI_down, evI_enum, evI_zip, binG_i, binG_l, cmpG_i, cmpG_n, cmpG_tt, cmpG_ll, len_l, len_t, int_i, int_b, tuple_l, tuple_t, list_l, list_t, binD, cmpD, unD, isiD, kdD, isK, truD, test, kept, keptS, keptI, peek, peekS, frzL, frzAt_nil, frzAt_z, frzAt_n, frzAt_s, frz_int, frz_bl, frz_non, frz_tup, frz_objn, frz_ro, frz_own, frz_fz', List.getElem?_cons_zero, List.getElem?_cons_succ, List.nil_append, List.cons_append, Option.map_some, Option.map_none, Option.bind_some, List.set_cons_zero, List.set_cons_succ, List.set_nil, fz_int, fz_bl, fz_non, fz_tup, fz_lf, fz_lr, fz_lo, fz_on, D.scal, D.isN, Bool.and_true, Bool.true_and, Bool.and_self, Bool.not_true, Bool.not_false, if_true, if_false, Bool.false_eq_true, reduceIte, reduceCtorEq, seqD_l, seqD_t, frzS_ints, fzs_ints, List.length_map, Int.reduceLT, Int.reduceLE, Int.reduceNeg, Int.reduceToNat, Int.reduceAdd, Int.reduceSub, Int.reduceMul, Int.reducePow, decide_true, decide_false, Bool.or_true, Bool.true_or, Bool.or_false, Bool.false_or, Bool.false_and, Bool.and_false, ev_keep, roots, fp]; try rfl) (evI1 (j := (n : Int)) (by rw [evLen (seqN_t pic) (evSl rfl), hp]; rfl) (by omega) (by omega)) ⟨none, none, none, none, rfl⟩ ?_ ?_
  · rintro i d ρ hi ⟨v4, v5, v6, v7, rfl⟩
    obtain ⟨hin, rfl⟩ := rng_get hi
    rw [show (0 : Int) + (i : Int) = (i : Int) by omega]
    refine ⟨_, rfl, ?_⟩
    obtain ⟨s, es⟩ : ∃ s, pic[i]? = some s := ⟨_, List.getElem?_eq_getElem (by omega)⟩
    have hs2 := hs s (List.mem_of_getElem? es)
    have ed : pic.getD i 0 = s := by rw [List.getD_eq_getElem?_getD, es]; rfl
    -- the value at i
    have put : ∀ x : Nat, (nxt n ls pic is)[i]? = some x → ∀ v4 v5 v6 v7 : Option D, ∃ w4 w5 w6 w7 : Option D, ([some N, some (nsD pic), some K, some (.lst .own (((nxt n ls pic is).take i).map nD ++ [nD x])), v4, v5, v6, v7] : Rho) = [some N, some (nsD pic), some K, some (.lst .own (((nxt n ls pic is).take (i + 1)).map nD)), w4, w5, w6, w7] := fun x hx v4 v5 v6 v7 => ⟨v4, v5, v6, v7, by rw [take_succ' hx, List.map_append]; rfl⟩
    have val : (nxt n ls pic is)[i]? = some (open Classical in if pic[i]? = some 1 then 2 else if pic[i]? = some 2 then 0 else if (∃ p, pic[p]? = some 1 ∧ Adj ls p i) ∨ (i : Int) ∈ is then 1 else 0) := by
      unfold nxt
      rw [List.getElem?_map, List.getElem?_range hin]
      rfl
    rw [es] at val
    have lt : ((nxt n ls pic is).take i).length ≤ 7 := by rw [List.length_take]; omega
    refine wp_asg (ρ1 := [some N, some (nsD pic), some K, some (.lst .own (((nxt n ls pic is).take i).map nD)), some (nD i), v5, v6, v7]) (by simp only [ev_slot, ev_con, ev_bin, ev_un, ev_cmp, ev_chain, ev_and, ev_or, ev_not, ev_ite, ev_idx, ev_sl, ev_fld, ev_tup, ev_lst, ev_call, ev_mk, ev_blt, ev_isi, evs_nil, evs_cons, evT_nil, evT_one, evI_lst, evI_r1, evI_r2, evI_down, evI_enum, evI_zip, binG_i, binG_l, cmpG_i, cmpG_n, cmpG_tt, cmpG_ll, len_l, len_t, int_i, int_b, tuple_l, tuple_t, list_l, list_t, binD, cmpD, unD, isiD, kdD, isK, truD, test, kept, keptS, keptI, peek, peekS, frzL, frzAt_nil, frzAt_z, frzAt_n, frzAt_s, frz_int, frz_bl, frz_non, frz_tup, frz_objn, frz_ro, frz_own, frz_fz', List.getElem?_cons_zero, List.getElem?_cons_succ, List.nil_append, List.cons_append, Option.map_some, Option.map_none, Option.bind_some, List.set_cons_zero, List.set_cons_succ, List.set_nil, fz_int, fz_bl, fz_non, fz_tup, fz_lf, fz_lr, fz_lo, fz_on, D.scal, D.isN, Bool.and_true, Bool.true_and, Bool.and_self, Bool.not_true, Bool.not_false, if_true, if_false, Bool.false_eq_true, reduceIte, reduceCtorEq, seqD_l, seqD_t, frzS_ints, fzs_ints, List.length_map, Int.reduceLT, Int.reduceLE, Int.reduceNeg, Int.reduceToNat, Int.reduceAdd, Int.reduceSub, Int.reduceMul, Int.reducePow, decide_true, decide_false, Bool.or_true, Bool.true_or, Bool.or_false, Bool.false_or, Bool.false_and, Bool.and_false, ev_keep, roots, fp, nD_frz]; try rfl) (d := nD s) (by rw [← ed]; exact evAtT (evSl rfl) (evSl rfl) (by omega)) rfl ?_
    refine wp_if (ρ1 := [some N, some (nsD pic), some K, some (.lst .own (((nxt n ls pic is).take i).map nD)), some (nD i), some (nD s), v6, v7]) (by simp only [ev_slot, ev_con, ev_bin, ev_un, ev_cmp, ev_chain, ev_and, ev_or, ev_not, ev_ite, ev_idx, ev_sl, ev_fld, ev_tup, ev_lst, ev_call, ev_mk, ev_blt, ev_isi, evs_nil, evs_cons, evT_nil, evT_one, evI_lst, evI_r1, evI_r2, evI_down, evI_enum, evI_zip, binG_i, binG_l, cmpG_i, cmpG_n, cmpG_tt, cmpG_ll, len_l, len_t, int_i, int_b, tuple_l, tuple_t, list_l, list_t, binD, cmpD, unD, isiD, kdD, isK, truD, test, kept, keptS, keptI, peek, peekS, frzL, frzAt_nil, frzAt_z, frzAt_n, frzAt_s, frz_int, frz_bl, frz_non, frz_tup, frz_objn, frz_ro, frz_own, frz_fz', List.getElem?_cons_zero, List.getElem?_cons_succ, List.nil_append, List.cons_append, Option.map_some, Option.map_none, Option.bind_some, List.set_cons_zero, List.set_cons_succ, List.set_nil, fz_int, fz_bl, fz_non, fz_tup, fz_lf, fz_lr, fz_lo, fz_on, D.scal, D.isN, Bool.and_true, Bool.true_and, Bool.and_self, Bool.not_true, Bool.not_false, if_true, if_false, Bool.false_eq_true, reduceIte, reduceCtorEq, seqD_l, seqD_t, frzS_ints, fzs_ints, List.length_map, Int.reduceLT, Int.reduceLE, Int.reduceNeg, Int.reduceToNat, Int.reduceAdd, Int.reduceSub, Int.reduceMul, Int.reducePow, decide_true, decide_false, Bool.or_true, Bool.true_or, Bool.or_false, Bool.false_or, Bool.false_and, Bool.and_false, ev_keep, roots, fp, nD_frz]; try rfl) (evGt (evSl rfl) (evCon rfl)) ?_
    by_cases c : s = 0
    · subst c
      rw [decide_eq_false (by omega : ¬ (0 : Int) < ((0 : Nat) : Int))]
      obtain ⟨l, el⟩ : ∃ l, nr[i]? = some l := ⟨_, List.getElem?_eq_getElem (by omega)⟩
      have hadj : ∀ b ∈ l, b < pic.length := fun b hb => by
        have := (adj_lt hl ((h2 i l el b).mp hb)).2
        omega
      show Wp G (.cons (.asg (.name 6) (.lc [7] (.slot 7) (.name 7) (.lst (.idx (.slot 0) (.slot 4))) (.cons (.cmp .Eq (.idx (.slot 1) (.slot 7)) (.con (.int 1))) .nil))) (.cons (.app 3 (.blt .int (.cons (.or (.cmp .Gt (.blt .len (.cons (.slot 6) (.nil))) (.con (.int 0))) (.cmp .In (.slot 4) (.slot 2))) (.nil)))) (.nil))) _ _ _
      have eN : ∀ v6 v7 : Option D, ev G (.idx (.slot 0) (.slot 4)) [some N, some (nsD pic), some K, some (.lst .own (((nxt n ls pic is).take i).map nD)), some (nD i), some (nD 0), v6, v7] = some (rowF l, true)   := fun v6 v7 => by
        rw [ev_idx, evSl rfl, evSl rfl, ← hN]
        show (at? (nr.map rowF) (i : Int)).map (fun d => (d, d.fz)) = _
        rw [at_nat _ _ (by omega) (by rw [List.length_map]; omega), Int.toNat_natCast, List.getElem?_map, el]
        rfl
      obtain ⟨v7', h7⟩ : ∃ v7', frzAt [v7] 0 = [v7'] := by cases v7 with | none => exact ⟨none, rfl⟩ | some d => exact ⟨some (frz d), rfl⟩
      refine wp_asg (ρ1 := [some N, some (nsD pic), some K, some (.lst .own (((nxt n ls pic is).take i).map nD)), some (nD i), some (nD 0), v6, v7']) (by simp only [ev_slot, ev_con, ev_bin, ev_un, ev_cmp, ev_chain, ev_and, ev_or, ev_not, ev_ite, ev_idx, ev_sl, ev_fld, ev_tup, ev_lst, ev_call, ev_mk, ev_blt, ev_isi, evs_nil, evs_cons, evT_nil, evT_one, evI_lst, evI_r1, evI_r2, evI_down, evI_enum, evI_zip, binG_i, binG_l, cmpG_i, cmpG_n, cmpG_tt, cmpG_ll, len_l, len_t, int_i, int_b, tuple_l, tuple_t, list_l, list_t, binD, cmpD, unD, isiD, kdD, isK, truD, test, kept, keptS, keptI, peek, peekS, frzL, frzAt_nil, frzAt_z, frzAt_n, frzAt_s, frz_int, frz_bl, frz_non, frz_tup, frz_objn, frz_ro, frz_own, frz_fz', List.getElem?_cons_zero, List.getElem?_cons_succ, List.nil_append, List.cons_append, Option.map_some, Option.map_none, Option.bind_some, List.set_cons_zero, List.set_cons_succ, List.set_nil, fz_int, fz_bl, fz_non, fz_tup, fz_lf, fz_lr, fz_lo, fz_on, D.scal, D.isN, Bool.and_true, Bool.true_and, Bool.and_self, Bool.not_true, Bool.not_false, if_true, if_false, Bool.false_eq_true, reduceIte, reduceCtorEq, seqD_l, seqD_t, frzS_ints, fzs_ints, List.length_map, Int.reduceLT, Int.reduceLE, Int.reduceNeg, Int.reduceToNat, Int.reduceAdd, Int.reduceSub, Int.reduceMul, Int.reducePow, decide_true, decide_false, Bool.or_true, Bool.true_or, Bool.or_false, Bool.false_or, Bool.false_and, Bool.and_false, ev_keep, roots, fp, nD_frz, fN, h7]; try rfl) (d := .lst .own ((l.filter fun b => pic.getD b 0 == 1).map nD)) ?_ rfl ?_
      · refine ev_lc (items := l.map nD) ?_ (by rw [List.length_map]; have := h3 l (List.mem_of_getElem? el); omega) ?_
        · rw [evI_lst, eN]
          show seqD (.lst .fz (frzS _)) = _
          rw [frzS_n]
          rfl
        · have e : ((l.filter fun b => pic.getD b 0 == 1).map nD) = l.filterMap fun b => if pic.getD b 0 == 1 then some (nD b) else none := by
            clear el hadj eN
            induction l with
            | nil => rfl
            | cons b r ih =>
              rw [List.filter_cons, List.filterMap_cons]
              by_cases q : (pic.getD b 0 == 1) = true
              · rw [if_pos q, if_pos q, List.map_cons, ih]
              · rw [if_neg q, if_neg q, ih]
          rw [e]
          refine compD_sel _ _ fun b hb => ?_
          have eb : ev G (.idx (.slot 1) (.slot 7)) [some N, some (nsD pic), some K, some (.lst .own (((nxt n ls pic is).take i).map nD)), some (nD i), some (nD 0), v6, some (nD b)] = some (nD (pic.getD b 0), true) := evAtT (evSl rfl) (evSl rfl) (hadj b hb)
          have et := evEq (G := G) (b := .con (.int 1)) (y := 1) eb (evCon rfl)
          have eq1 : (((pic.getD b 0 : Nat) : Int) == 1) = (pic.getD b 0 == 1) := by
            by_cases q : pic.getD b 0 = 1
            · rw [q]; rfl
            · rw [beq_eq_false_iff_ne.mpr q, beq_eq_false_iff_ne]
              omega
          rw [eq1] at et
          cases q : (pic.getD b 0 == 1)
          · exact lcF_no (ρ' := [some N, some (nsD pic), some K, some (.lst .own (((nxt n ls pic is).take i).map nD)), some (nD i), some (nD 0), v6, some (nD b)]) rfl (by rw [evT_one, et, q])
          · exact lcF_yes (ρ' := [some N, some (nsD pic), some K, some (.lst .own (((nxt n ls pic is).take i).map nD)), some (nD i), some (nD 0), v6, some (nD b)]) rfl (by rw [evT_one, et, q]) (evSl rfl)
      · have eo : ev G (.blt .int (.cons (.or (.cmp .Gt (.blt .len (.cons (.slot 6) (.nil))) (.con (.int 0))) (.cmp .In (.slot 4) (.slot 2))) (.nil))) [some N, some (nsD pic), some K, some (.lst .own (((nxt n ls pic is).take i).map nD)), some (nD i), some (nD 0), some (.lst .own ((l.filter fun b => pic.getD b 0 == 1).map nD)), v7'] = some (.int (if (decide (0 < (l.filter fun b => pic.getD b 0 == 1).length) || decide ((i : Int) ∈ is)) then 1 else 0), true) := by
          refine evIntB (f := true) ?_
          have e1 : ev G (.cmp .Gt (.blt .len (.cons (.slot 6) (.nil))) (.con (.int 0))) [some N, some (nsD pic), some K, some (.lst .own (((nxt n ls pic is).take i).map nD)), some (nD i), some (nD 0), some (.lst .own ((l.filter fun b => pic.getD b 0 == 1).map nD)), v7'] = some (.bl (decide (0 < (l.filter fun b => pic.getD b 0 == 1).length)), true) := by
            refine evCmp (x := ((l.filter fun b => pic.getD b 0 == 1).length : Int)) (y := 0) (f := true) ?_ (evCon rfl) ?_
            · rw [ev_blt, evs_cons, evs_nil, evSl rfl]
              show some (D.int (((l.filter fun b => pic.getD b 0 == 1).map nD).length : Int), true) = _
              rw [List.length_map]
            · show some (decide ((0 : Int) < _)) = _
              congr 1
              exact decide_eq_decide.mpr (by omega)
          have e2 : ev G (.cmp .In (.slot 4) (.slot 2)) [some N, some (nsD pic), some K, some (.lst .own (((nxt n ls pic is).take i).map nD)), some (nD i), some (nD 0), some (.lst .own ((l.filter fun b => pic.getD b 0 == 1).map nD)), v7'] = some (.bl (decide ((i : Int) ∈ is)), true) := by
            rw [ev_cmp, evSl rfl, evSl rfl, ← hK]
            show (inD (.int (i : Int)) (.lst .fz (is.map D.int))).map _ = _
            rw [in_ints]
            rfl
          rw [ev_or, e1, e2]
          cases decide (0 < (l.filter fun b => pic.getD b 0 == 1).length) <;> rfl
        refine wp_app (ρ1 := [some N, some (nsD pic), some K, some (.lst .own (((nxt n ls pic is).take i).map nD)), some (nD i), some (nD 0), some (.lst .own ((l.filter fun b => pic.getD b 0 == 1).map nD)), v7']) (by simp only [ev_slot, ev_con, ev_bin, ev_un, ev_cmp, ev_chain, ev_and, ev_or, ev_not, ev_ite, ev_idx, ev_sl, ev_fld, ev_tup, ev_lst, ev_call, ev_mk, ev_blt, ev_isi, evs_nil, evs_cons, evT_nil, evT_one, evI_lst, evI_r1, evI_r2, evI_down, evI_enum, evI_zip, binG_i, binG_l, cmpG_i, cmpG_n, cmpG_tt, cmpG_ll, len_l, len_t, int_i, int_b, tuple_l, tuple_t, list_l, list_t, binD, cmpD, unD, isiD, kdD, isK, truD, test, kept, keptS, keptI, peek, peekS, frzL, frzAt_nil, frzAt_z, frzAt_n, frzAt_s, frz_int, frz_bl, frz_non, frz_tup, frz_objn, frz_ro, frz_own, frz_fz', List.getElem?_cons_zero, List.getElem?_cons_succ, List.nil_append, List.cons_append, Option.map_some, Option.map_none, Option.bind_some, List.set_cons_zero, List.set_cons_succ, List.set_nil, fz_int, fz_bl, fz_non, fz_tup, fz_lf, fz_lr, fz_lo, fz_on, D.scal, D.isN, Bool.and_true, Bool.true_and, Bool.and_self, Bool.not_true, Bool.not_false, if_true, if_false, Bool.false_eq_true, reduceIte, reduceCtorEq, seqD_l, seqD_t, frzS_ints, fzs_ints, List.length_map, Int.reduceLT, Int.reduceLE, Int.reduceNeg, Int.reduceToNat, Int.reduceAdd, Int.reduceSub, Int.reduceMul, Int.reducePow, decide_true, decide_false, Bool.or_true, Bool.true_or, Bool.or_false, Bool.false_or, Bool.false_and, Bool.and_false, ev_keep, roots, fp, nD_frz, fN]; try rfl) eo rfl (by rw [List.length_map]; unfold most; omega) (wp_nil (wp_nil ?_))
        rw [if_neg (by decide), if_neg (by decide)] at val
        have eqv : ((∃ p, pic[p]? = some 1 ∧ Adj ls p i) ∨ (i : Int) ∈ is) ↔ (decide (0 < (l.filter fun b => pic.getD b 0 == 1).length) || decide ((i : Int) ∈ is)) = true := by
          rw [Bool.or_eq_true, decide_eq_true_eq, decide_eq_true_eq]
          refine or_congr ?_ Iff.rfl
          rw [List.length_pos_iff_exists_mem]
          constructor
          · rintro ⟨p, q1, q2⟩
            refine ⟨p, List.mem_filter.mpr ⟨(h2 i l el p).mpr ?_, ?_⟩⟩
            · obtain ⟨z, z1, z2⟩ := q2
              exact ⟨z, z1, z2.symm.imp (fun h => ⟨h.1, h.2⟩) fun h => ⟨h.1, h.2⟩⟩
            · rw [List.getD_eq_getElem?_getD, q1]
              rfl
          · rintro ⟨p, q⟩
            obtain ⟨q1, q2⟩ := List.mem_filter.mp q
            have lp := hadj p q1
            refine ⟨p, ?_, ?_⟩
            · rw [List.getElem?_eq_getElem lp]
              rw [List.getD_eq_getElem?_getD, List.getElem?_eq_getElem lp] at q2
              exact congrArg some (eq_of_beq q2)
            · obtain ⟨z, z1, z2⟩ := (h2 i l el p).mp q1
              exact ⟨z, z1, z2.symm.imp (fun h => ⟨h.1, h.2⟩) fun h => ⟨h.1, h.2⟩⟩
        cases t : (decide (0 < (l.filter fun b => pic.getD b 0 == 1).length) || decide ((i : Int) ∈ is))
        · rw [if_neg (fun h => by rw [eqv.mp h] at t; cases t)] at val
          exact put 0 val _ _ _ _
        · rw [if_pos (eqv.mpr t)] at val
          exact put 1 val _ _ _ _
    · rw [decide_eq_true (by omega : (0 : Int) < (s : Int))]
      have e3 : ev G (.lst (.cons (.con (.int 0)) (.cons (.con (.int 2)) (.cons (.con (.int 0)) (.nil))))) [some N, some (nsD pic), some K, some (.lst .own (((nxt n ls pic is).take i).map nD)), some (nD i), some (nD s), v6, v7] = some (.lst .own (([0, 2, 0] : List Nat).map nD), true) := by
        rw [ev_lst, evs_cons, evs_cons, evs_cons, evs_nil, evCon rfl, evCon rfl]
        rfl
      refine wp_app (ρ1 := [some N, some (nsD pic), some K, some (.lst .own (((nxt n ls pic is).take i).map nD)), some (nD i), some (nD s), v6, v7]) (by simp only [ev_slot, ev_con, ev_bin, ev_un, ev_cmp, ev_chain, ev_and, ev_or, ev_not, ev_ite, ev_idx, ev_sl, ev_fld, ev_tup, ev_lst, ev_call, ev_mk, ev_blt, ev_isi, evs_nil, evs_cons, evT_nil, evT_one, evI_lst, evI_r1, evI_r2, evI_down, evI_enum, evI_zip, binG_i, binG_l, cmpG_i, cmpG_n, cmpG_tt, cmpG_ll, len_l, len_t, int_i, int_b, tuple_l, tuple_t, list_l, list_t, binD, cmpD, unD, isiD, kdD, isK, truD, test, kept, keptS, keptI, peek, peekS, frzL, frzAt_nil, frzAt_z, frzAt_n, frzAt_s, frz_int, frz_bl, frz_non, frz_tup, frz_objn, frz_ro, frz_own, frz_fz', List.getElem?_cons_zero, List.getElem?_cons_succ, List.nil_append, List.cons_append, Option.map_some, Option.map_none, Option.bind_some, List.set_cons_zero, List.set_cons_succ, List.set_nil, fz_int, fz_bl, fz_non, fz_tup, fz_lf, fz_lr, fz_lo, fz_on, D.scal, D.isN, Bool.and_true, Bool.true_and, Bool.and_self, Bool.not_true, Bool.not_false, if_true, if_false, Bool.false_eq_true, reduceIte, reduceCtorEq, seqD_l, seqD_t, frzS_ints, fzs_ints, List.length_map, Int.reduceLT, Int.reduceLE, Int.reduceNeg, Int.reduceToNat, Int.reduceAdd, Int.reduceSub, Int.reduceMul, Int.reducePow, decide_true, decide_false, Bool.or_true, Bool.true_or, Bool.or_false, Bool.false_or, Bool.false_and, Bool.and_false, ev_keep, roots, fp, nD_frz]; try rfl) (evAt e3 (evSl rfl) (by show s < 3; omega)) rfl (by rw [List.length_map]; unfold most; omega) (wp_nil (wp_nil ?_))
      have : s = 1 ∨ s = 2 := by omega
      rcases this with rfl | rfl
      · rw [if_pos rfl] at val
        exact put 2 val _ _ _ _
      · rw [if_neg (by decide), if_pos rfl] at val
        exact put 0 val _ _ _ _
  · rw [rngD_len]
    rintro ρ ⟨v4, v5, v6, v7, rfl⟩
    have e : (nxt n ls pic is).take n = nxt n ls pic is := List.take_of_length_le (by omega)
    rw [e]
    refine wp_ret (ρ1 := [some N, some (nsD pic), some K, some (.lst .own ((nxt n ls pic is).map nD)), v4, v5, v6, v7]) (by simp only [ev_slot, ev_con, ev_bin, ev_un, ev_cmp, ev_chain, ev_and, ev_or, ev_not, ev_ite, ev_idx, ev_sl, ev_fld, ev_tup, ev_lst, ev_call, ev_mk, ev_blt, ev_isi, evs_nil, evs_cons, evT_nil, evT_one, evI_lst, evI_r1, evI_r2, evI_down, evI_enum, evI_zip, binG_i, binG_l, cmpG_i, cmpG_n, cmpG_tt, cmpG_ll, len_l, len_t, int_i, int_b, tuple_l, tuple_t, list_l, list_t, binD, cmpD, unD, isiD, kdD, isK, truD, test, kept, keptS, keptI, peek, peekS, frzL, frzAt_nil, frzAt_z, frzAt_n, frzAt_s, frz_int, frz_bl, frz_non, frz_tup, frz_objn, frz_ro, frz_own, frz_fz', List.getElem?_cons_zero, List.getElem?_cons_succ, List.nil_append, List.cons_append, Option.map_some, Option.map_none, Option.bind_some, List.set_cons_zero, List.set_cons_succ, List.set_nil, fz_int, fz_bl, fz_non, fz_tup, fz_lf, fz_lr, fz_lo, fz_on, D.scal, D.isN, Bool.and_true, Bool.true_and, Bool.and_self, Bool.not_true, Bool.not_false, if_true, if_false, Bool.false_eq_true, reduceIte, reduceCtorEq, seqD_l, seqD_t, frzS_ints, fzs_ints, List.length_map, Int.reduceLT, Int.reduceLE, Int.reduceNeg, Int.reduceToNat, Int.reduceAdd, Int.reduceSub, Int.reduceMul, Int.reducePow, decide_true, decide_false, Bool.or_true, Bool.true_or, Bool.or_false, Bool.false_or, Bool.false_and, Bool.and_false, ev_keep, roots]) ?_ rfl
    rw [ev_blt, evs_cons, evs_nil, evSl rfl]
    show (if fzs ((nxt n ls pic is).map nD) then some (D.tup _) else none).map _ = _
    rw [fzs_n]
    rfl
end
end P5

/-! M5o: judges. -/
namespace P5
open PySem L2 Z Bt
section
variable {G : Gd} {ρ : Rho}
/-- _law_row -/
theorem law_row_ok (h14 : ∀ i : Int, G.call 14 [.int i] = some (.bl true)) (l : List Nat) (hl : l.length ≤ 1000) : runD G f22 [nsD l, nD l.length] = some (.bl true) := by
  refine runD_rt rfl ?_
  show runs G b22 [some (nsD l), some (nD l.length), none] = _
  unfold b22
  have fp : frz (nsD l) = nsD l := rfl
  refine runs_rt (run1_ret (ρ1 := [some (nsD l), some (nD l.length), none]) (by simp only [ev_slot, ev_con, ev_bin, ev_un, ev_cmp, ev_chain, ev_and, ev_or, ev_not, ev_ite, ev_idx, ev_sl, ev_fld, ev_tup, ev_lst, ev_call, ev_mk, ev_blt, ev_isi, evs_nil, evs_cons, evT_nil, evT_one, evI_lst, evI_r1, evI_r2, evI_down, evI_enum, evI_zip, binG_i, binG_l, cmpG_i, cmpG_n, cmpG_tt, cmpG_ll, len_l, len_t, int_i, int_b, tuple_l, tuple_t, list_l, list_t, binD, cmpD, unD, isiD, kdD, isK, truD, test, kept, keptS, keptI, peek, peekS, frzL, frzAt_nil, frzAt_z, frzAt_n, frzAt_s, frz_int, frz_bl, frz_non, frz_tup, frz_objn, frz_ro, frz_own, frz_fz', List.getElem?_cons_zero, List.getElem?_cons_succ, List.nil_append, List.cons_append, Option.map_some, Option.map_none, Option.bind_some, List.set_cons_zero, List.set_cons_succ, List.set_nil, fz_int, fz_bl, fz_non, fz_tup, fz_lf, fz_lr, fz_lo, fz_on, D.scal, D.isN, Bool.and_true, Bool.true_and, Bool.and_self, Bool.not_true, Bool.not_false, if_true, if_false, Bool.false_eq_true, reduceIte, reduceCtorEq, seqD_l, seqD_t, frzS_ints, fzs_ints, List.length_map, Int.reduceLT, Int.reduceLE, Int.reduceNeg, Int.reduceToNat, Int.reduceAdd, Int.reduceSub, Int.reduceMul, Int.reducePow, decide_true, decide_false, Bool.or_true, Bool.true_or, Bool.or_false, Bool.false_or, Bool.false_and, Bool.and_false, ev_keep, roots, fp, nD_frz]; try rfl) ?_)
  have e1 : ev G (.isi (.slot 0) .tuple) [some (nsD l), some (nD l.length), none] = some (.bl true, true) := by rw [ev_isi, evSl rfl]; rfl
  have e2 : ev G (.cmp .Eq (.blt .len (.cons (.slot 0) (.nil))) (.slot 1)) [some (nsD l), some (nD l.length), none] = some (.bl true, true) := evCmp (evLen (seqN_t l) (evSl rfl)) (evSl rfl) (by show some (((l.length : Nat) : Int) == ((l.length : Nat) : Int)) = _; rw [beq_self_eq_true])
  have e3 : ev G (.lc [2] (.slot 2) (.name 2) (.lst (.slot 0)) (.cons (.not (.call 14 (.cons (.slot 2) (.nil)) [])) .nil)) [some (nsD l), some (nD l.length), none] = some (.lst .own [], true) := by
    refine ev_lc (items := l.map nD) (by rw [evI_lst, evSl rfl]; rfl) (by rw [List.length_map]; omega) ?_
    have e : ∀ l : List Nat, (l.filterMap fun _ => (none : Option D)) = [] := fun l => by
      induction l with
      | nil => rfl
      | cons a r ih => rw [List.filterMap_cons]; exact ih
    refine (compD_sel nD (fun _ => none) (l := l) fun s hs => ?_).trans (congrArg some (e l))
    refine lcF_no (ρ' := [some (nsD l), some (nD l.length), some (nD s)]) rfl ?_
    rw [evT_one]
    exact test_of (evNot (x := true) (evCall1 (x := nD s) (evSl rfl) (h14 _)))
  have e4 : ev G (.cmp .Eq (.blt .len (.cons (.lc [2] (.slot 2) (.name 2) (.lst (.slot 0)) (.cons (.not (.call 14 (.cons (.slot 2) (.nil)) [])) .nil)) (.nil))) (.con (.int 0))) [some (nsD l), some (nD l.length), none] = some (.bl true, true) := by
    refine evCmp (x := 0) (y := 0) (f := true) ?_ (evCon rfl) rfl
    rw [ev_blt, evs_cons, evs_nil, e3]
    rfl
  exact evAnd e1 (evAnd e2 e4)
/-- Web.__eq__ of a web and itself -/
theorem web_eq_ok (n : Nat) (ls : List (Nat × Nat)) (ms : List Nat) (nr : List (List Nat)) : runD G f4 [webD n ls ms nr, webD n ls ms nr] = some (.bl true) := by
  generalize hW : webD n ls ms nr = W
  have fW : frz W = W := by rw [← hW]; rfl
  refine runD_rt rfl ?_
  show runs G b4 [some W, some W] = _
  unfold b4
  refine runs_rt (run1_ret (ρ1 := [some W, some W]) (by simp only [ev_slot, ev_con, ev_bin, ev_un, ev_cmp, ev_chain, ev_and, ev_or, ev_not, ev_ite, ev_idx, ev_sl, ev_fld, ev_tup, ev_lst, ev_call, ev_mk, ev_blt, ev_isi, evs_nil, evs_cons, evT_nil, evT_one, evI_lst, evI_r1, evI_r2, evI_down, evI_enum, evI_zip, binG_i, binG_l, cmpG_i, cmpG_n, cmpG_tt, cmpG_ll, len_l, len_t, int_i, int_b, tuple_l, tuple_t, list_l, list_t, binD, cmpD, unD, isiD, kdD, isK, truD, test, kept, keptS, keptI, peek, peekS, frzL, frzAt_nil, frzAt_z, frzAt_n, frzAt_s, frz_int, frz_bl, frz_non, frz_tup, frz_objn, frz_ro, frz_own, frz_fz', List.getElem?_cons_zero, List.getElem?_cons_succ, List.nil_append, List.cons_append, Option.map_some, Option.map_none, Option.bind_some, List.set_cons_zero, List.set_cons_succ, List.set_nil, fz_int, fz_bl, fz_non, fz_tup, fz_lf, fz_lr, fz_lo, fz_on, D.scal, D.isN, Bool.and_true, Bool.true_and, Bool.and_self, Bool.not_true, Bool.not_false, if_true, if_false, Bool.false_eq_true, reduceIte, reduceCtorEq, seqD_l, seqD_t, frzS_ints, fzs_ints, List.length_map, Int.reduceLT, Int.reduceLE, Int.reduceNeg, Int.reduceToNat, Int.reduceAdd, Int.reduceSub, Int.reduceMul, Int.reducePow, decide_true, decide_false, Bool.or_true, Bool.true_or, Bool.or_false, Bool.false_or, Bool.false_and, Bool.and_false, ev_keep, roots, fW]; try rfl) (evAnd (x := true) (y := true) (f := true) (g := true) ?_ (evAnd (x := true) (y := true) (f := true) (g := true) ?_ ?_)))
  · rw [ev_isi, evSl rfl, ← hW]
    rfl
  · refine evCmp (x := (n : Int)) (y := (n : Int)) (f := true) (g := true) ?_ ?_ (by show some ((n : Int) == (n : Int)) = _; rw [beq_self_eq_true])
    · rw [ev_fld, evSl rfl, ← hW]; rfl
    · rw [ev_fld, evSl rfl, ← hW]; rfl
  · have e0 : ev G (.fld (.slot 0) 1) [some W, some W] = some (.tup (ls.map lineD), true) := by rw [ev_fld, evSl rfl, ← hW]; rfl
    have e1 : ev G (.fld (.slot 1) 1) [some W, some W] = some (.tup (ls.map lineD), true) := by rw [ev_fld, evSl rfl, ← hW]; rfl
    rw [ev_cmp, e0, e1]
    show (cmpG G .Eq (.tup _) (.tup _)).map _ = _
    rw [cmpG_tt]
    show (eqD _ _).map _ = _
    rw [eqD_lines]
    rfl
/-- _law_is_scene -/
theorem is_scene_ok (hsp : G.spec 0 (.cmp .Eq) = some 4) (h4 : ∀ n ls ms nr, G.call 4 [webD n ls ms nr, webD n ls ms nr] = some (.bl true)) (h22 : ∀ l : List Nat, l.length ≤ 1000 → G.call 22 [nsD l, nD l.length] = some (.bl true))
    (n : Nat) (ls : List (Nat × Nat)) (ms : List Nat) (nr : List (List Nat)) (pic : List Nat) (hl : pic.length ≤ 1000) (P : D) (S : SeqN P pic) : runD G f23 [scD (webD n ls ms nr) pic, webD n ls ms nr, P] = some (.bl true) := by
  have hw := h4 n ls ms nr
  have hWc : cmpG G .Eq (webD n ls ms nr) (webD n ls ms nr) = some true := by
    show (if (0 : Nat) = 0 then blOf (callS G 0 (.cmp .Eq) [webD n ls ms nr, webD n ls ms nr]) else none) = _
    rw [if_pos rfl]
    unfold callS
    rw [hsp]
    show blOf (G.call 4 [webD n ls ms nr, webD n ls ms nr]) = _
    rw [hw]
    rfl
  generalize hW : webD n ls ms nr = W at *
  have fW : frz W = W := by rw [← hW]; rfl
  generalize hS : scD W pic = Sc at *
  have fS : frz Sc = Sc := by rw [← hS]; rfl
  refine runD_rt rfl ?_
  show runs G b23 [some Sc, some W, some P] = _
  unfold b23
  have p5 : ev G (.fld (.slot 0) 5) [some Sc, some W, some P] = some (nsD pic, true) := by rw [ev_fld, evSl rfl, ← hS]; rfl
  refine runs_if false (ρ1 := [some Sc, some W, some P]) (by simp only [ev_slot, ev_con, ev_bin, ev_un, ev_cmp, ev_chain, ev_and, ev_or, ev_not, ev_ite, ev_idx, ev_sl, ev_fld, ev_tup, ev_lst, ev_call, ev_mk, ev_blt, ev_isi, evs_nil, evs_cons, evT_nil, evT_one, evI_lst, evI_r1, evI_r2, evI_down, evI_enum, evI_zip, binG_i, binG_l, cmpG_i, cmpG_n, cmpG_tt, cmpG_ll, len_l, len_t, int_i, int_b, tuple_l, tuple_t, list_l, list_t, binD, cmpD, unD, isiD, kdD, isK, truD, test, kept, keptS, keptI, peek, peekS, frzL, frzAt_nil, frzAt_z, frzAt_n, frzAt_s, frz_int, frz_bl, frz_non, frz_tup, frz_objn, frz_ro, frz_own, frz_fz', List.getElem?_cons_zero, List.getElem?_cons_succ, List.nil_append, List.cons_append, Option.map_some, Option.map_none, Option.bind_some, List.set_cons_zero, List.set_cons_succ, List.set_nil, fz_int, fz_bl, fz_non, fz_tup, fz_lf, fz_lr, fz_lo, fz_on, D.scal, D.isN, Bool.and_true, Bool.true_and, Bool.and_self, Bool.not_true, Bool.not_false, if_true, if_false, Bool.false_eq_true, reduceIte, reduceCtorEq, seqD_l, seqD_t, frzS_ints, fzs_ints, List.length_map, Int.reduceLT, Int.reduceLE, Int.reduceNeg, Int.reduceToNat, Int.reduceAdd, Int.reduceSub, Int.reduceMul, Int.reducePow, decide_true, decide_false, Bool.or_true, Bool.true_or, Bool.or_false, Bool.false_or, Bool.false_and, Bool.and_false, ev_keep, roots, fW, fS, S.fr]; try rfl) (test_of (evOrF (f := true) (g := true) ?_ ?_)) runs_nil (runs_rt (run1_ret (ρ1 := [some Sc, some W, some P]) (by simp only [ev_slot, ev_con, ev_bin, ev_un, ev_cmp, ev_chain, ev_and, ev_or, ev_not, ev_ite, ev_idx, ev_sl, ev_fld, ev_tup, ev_lst, ev_call, ev_mk, ev_blt, ev_isi, evs_nil, evs_cons, evT_nil, evT_one, evI_lst, evI_r1, evI_r2, evI_down, evI_enum, evI_zip, binG_i, binG_l, cmpG_i, cmpG_n, cmpG_tt, cmpG_ll, len_l, len_t, int_i, int_b, tuple_l, tuple_t, list_l, list_t, binD, cmpD, unD, isiD, kdD, isK, truD, test, kept, keptS, keptI, peek, peekS, frzL, frzAt_nil, frzAt_z, frzAt_n, frzAt_s, frz_int, frz_bl, frz_non, frz_tup, frz_objn, frz_ro, frz_own, frz_fz', List.getElem?_cons_zero, List.getElem?_cons_succ, List.nil_append, List.cons_append, Option.map_some, Option.map_none, Option.bind_some, List.set_cons_zero, List.set_cons_succ, List.set_nil, fz_int, fz_bl, fz_non, fz_tup, fz_lf, fz_lr, fz_lo, fz_on, D.scal, D.isN, Bool.and_true, Bool.true_and, Bool.and_self, Bool.not_true, Bool.not_false, if_true, if_false, Bool.false_eq_true, reduceIte, reduceCtorEq, seqD_l, seqD_t, frzS_ints, fzs_ints, List.length_map, Int.reduceLT, Int.reduceLE, Int.reduceNeg, Int.reduceToNat, Int.reduceAdd, Int.reduceSub, Int.reduceMul, Int.reducePow, decide_true, decide_false, Bool.or_true, Bool.true_or, Bool.or_false, Bool.false_or, Bool.false_and, Bool.and_false, ev_keep, roots, fW, fS, S.fr]; try rfl) (evAnd (x := true) (y := true) (f := true) (g := true) ?_ ?_)))
  · refine evNot (x := true) (f := true) ?_
    rw [ev_isi, evSl rfl, ← hS]
    rfl
  · refine evNot (x := true) (f := true) ?_
    have e0 : ev G (.fld (.slot 0) 4) [some Sc, some W, some P] = some (W, W.fz) := by rw [ev_fld, evSl rfl, ← hS]; rfl
    rw [ev_cmp, e0, evSl rfl]
    show (cmpG G .Eq W W).map _ = _
    rw [hWc]
    rfl
  · exact evCall2 (x := nsD pic) (y := nD pic.length) p5 (evLen S (evSl rfl)) (h22 pic hl)
  · rw [ev_cmp, p5, evTup S (evSl rfl)]
    show (cmpG G .Eq (nsD pic) (nsD pic)).map _ = _
    have : cmpG G .Eq (nsD pic) (nsD pic) = eqD (nsD pic) (nsD pic) := cmpG_tt
    rw [this, eqD_ns]
    rfl
end
end P5

/-! M5p: law. -/
namespace P5
open PySem L2 Z Bt
theorem nxt_congr {n : Nat} {ls : List (Nat × Nat)} {pic : List Nat} {is js : List Int} (h : ∀ x, x ∈ is ↔ x ∈ js) : nxt n ls pic is = nxt n ls pic js := by
  unfold nxt
  refine List.map_congr_left fun b _ => ?_
  by_cases c1 : pic[b]? = some 1
  · rw [if_pos c1, if_pos c1]
  · rw [if_neg c1, if_neg c1]
    by_cases c2 : pic[b]? = some 2
    · rw [if_pos c2, if_pos c2]
    · rw [if_neg c2, if_neg c2]
      by_cases c3 : (∃ p, pic[p]? = some 1 ∧ Adj ls p b) ∨ (b : Int) ∈ is
      · rw [if_pos c3, if_pos (c3.imp id (h _).mp)]
      · rw [if_neg c3, if_neg fun z => c3 (z.imp id (h _).mpr)]
theorem nxt_all {n : Nat} {ls : List (Nat × Nat)} {pic : List Nat} (hp : pic.length = n) (hs : ∀ s ∈ pic, s ≤ 2) : nxt n ls pic ((List.range n).map fun k : Nat => (k : Int)) = pic.map fun s => (s + 1) % 3 := by
  refine List.ext_getElem? fun b => ?_
  unfold nxt
  rw [List.getElem?_map, List.getElem?_map]
  by_cases hb : b < n
  · obtain ⟨s, es⟩ : ∃ s, pic[b]? = some s := ⟨_, List.getElem?_eq_getElem (by omega)⟩
    have h2 := hs s (List.mem_of_getElem? es)
    rw [List.getElem?_range hb, Option.map_some, es, Option.map_some]
    have hm : (b : Int) ∈ (List.range n).map fun k : Nat => (k : Int) := List.mem_map.mpr ⟨b, List.mem_range.mpr hb, rfl⟩
    have : s = 0 ∨ s = 1 ∨ s = 2 := by omega
    rcases this with rfl | rfl | rfl
    · rw [if_neg (by decide), if_neg (by decide), if_pos (.inr hm)]
    · rw [if_pos rfl]
    · rw [if_neg (by decide), if_pos rfl]
  · rw [List.getElem?_eq_none (by rw [List.length_range]; omega), List.getElem?_eq_none (by omega)]
    rfl
def LN (m : M) (ls : List (Nat × Nat)) : D := .lst m (ls.map lineD)
def IL (m : M) (is : List Int) : D := .lst m (is.map D.int)
def DR (m : M) (n : Nat) (ls : List (Nat × Nat)) (pic : List Nat) : D := .lst m [nD n, LN .fz ls, nsD pic]
def NL (nr : List (List Nat)) : D := .lst .own (nr.map rowL)
def NF (nr : List (List Nat)) : D := .lst .fz (nr.map rowF)
def PL (m : M) (l : List Nat) : D := .lst m (l.map nD)
theorem f_LNo (ls) : frz (LN .own ls) = LN .fz ls := by show D.lst .fz (frzS _) = _; rw [frzS_line]; rfl
theorem f_LNf (ls) : frz (LN .fz ls) = LN .fz ls := by show D.lst .fz (frzS _) = _; rw [frzS_line]; rfl
theorem f_ILo (is) : frz (IL .own is) = IL .fz is := by show D.lst .fz (frzS _) = _; rw [frzS_ints]; rfl
theorem f_ILf (is) : frz (IL .fz is) = IL .fz is := by show D.lst .fz (frzS _) = _; rw [frzS_ints]; rfl
theorem f_ILr (is) : frz (IL .ro is) = IL .ro is := by show D.lst .ro (frzS _) = _; rw [frzS_ints]; rfl
theorem f_DRo (n ls pic) : frz (DR .own n ls pic) = DR .fz n ls pic := by show D.lst .fz [nD n, frz (LN .fz ls), nsD pic] = _; rw [f_LNf]; rfl
theorem f_DRf (n ls pic) : frz (DR .fz n ls pic) = DR .fz n ls pic := by show D.lst .fz [nD n, frz (LN .fz ls), nsD pic] = _; rw [f_LNf]; rfl
theorem f_NL (nr) : frz (NL nr) = NF nr := by show D.lst .fz (frzS _) = _; rw [frzS_rowL]; rfl
theorem f_NF (nr) : frz (NF nr) = NF nr := by show D.lst .fz (frzS _) = _; rw [frzS_rowF]; rfl
theorem f_PLo (l) : frz (PL .own l) = PL .fz l := by show D.lst .fz (frzS _) = _; rw [frzS_n]; rfl
theorem f_PLf (l) : frz (PL .fz l) = PL .fz l := by show D.lst .fz (frzS _) = _; rw [frzS_n]; rfl
theorem f_ns (l) : frz (nsD l) = nsD l := rfl
theorem f_web (n ls ms nr) : frz (webD n ls ms nr) = webD n ls ms nr := rfl
theorem f_sc (w p) : frz (scD w p) = scD w p := rfl
/-- what the law calls, at this depth -/
structure LawG (G : Gd) : Prop where
  L : LwOk G
  pr : PrOk G
  scene : ∀ (ns : List Int) (at_ mo : Int), 0 ≤ at_ → at_ < 50 → 1 ≤ mo → mo ≤ 7 → ∃ d, G.call 19 [IL .ro ns, .int at_, .int mo] = some d ∧ SceneQ d
  near : ∀ (n : Nat) (ls : List (Nat × Nat)), n ≤ 7 → Lines n ls → ls.length ≤ 100 → ∃ d, G.call 20 [nD n, LN .fz ls] = some d ∧ NearQ n ls d
  lstep : ∀ (n : Nat) (ls : List (Nat × Nat)) (nr : List (List Nat)) (pic : List Nat) (is : List Int), n ≤ 7 → Lines n ls → nr.length = n → (∀ a l, nr[a]? = some l → ∀ b, b ∈ l ↔ Adj ls a b) → (∀ l ∈ nr, l.length ≤ 1000) → pic.length = n → (∀ s ∈ pic, s ≤ 2) → G.call 21 [NF nr, nsD pic, IL .fz is] = some (nsD (nxt n ls pic is))
  isc : ∀ (n : Nat) (ls : List (Nat × Nat)) (ms : List Nat) (nr : List (List Nat)) (pic : List Nat) (P : D), pic.length ≤ 1000 → SeqN P pic → G.call 23 [scD (webD n ls ms nr) pic, webD n ls ms nr, P] = some (.bl true)
section
variable {G : Gd}
def st (Sc : D) (v1 v2 v3 v4 v5 v6 v7 v8 v9 v10 v11 v12 v13 v14 : Option D) : Rho := [some Sc, v1, v2, v3, v4, v5, v6, v7, v8, v9, v10, v11, v12, v13, v14, none, none, none, none]
theorem evScene {ρ : Rho} {a b c : E} {n : Nat} {m : M} {ls : List (Nat × Nat)} {pic : List Nat} {i : Nat} (h : ρ[i]? = some (some (DR m n ls pic))) : ev G (.idx (.slot i) (.con (.int 0))) ρ = some (nD n, true) ∧ ev G (.idx (.slot i) (.con (.int 1))) ρ = some (LN .fz ls, true) ∧ ev G (.idx (.slot i) (.con (.int 2))) ρ = some (nsD pic, true) := by
  refine ⟨?_, ?_, ?_⟩ <;> (rw [ev_idx, evSl h, evCon rfl]; rfl)
/-- one check: the scene that the program gives is the law's -/
theorem evCheck (K : LawG G) {ρ : Rho} {a w x : E} {n : Nat} {ls : List (Nat × Nat)} {ms : List Nat} {nr : List (List Nat)} {pic : List Nat} {P : D} (ha : ev G a ρ = some (scD (webD n ls ms nr) pic, true)) (hw : ev G w ρ = some (webD n ls ms nr, true)) (hx : ev G x ρ = some (P, true)) (hl : pic.length ≤ 1000) (S : SeqN (frz P) pic) :
    ev G (.call 23 (.cons a (.cons w (.cons x .nil))) []) ρ = some (.bl true, true) := evCall3 ha hw hx (K.isc n ls ms nr pic _ hl S)
theorem evStep (K : LawG G) {ρ : Rho} {a x : E} {n : Nat} {ls : List (Nat × Nat)} {ms : List Nat} {nr : List (List Nat)} {pic : List Nat} {P : D} {is : List Int} (hn : n ≤ 60) (O : WebOk n ls ms nr) (hp : pic.length = n) (hs : ∀ s ∈ pic, s ≤ 2) (ha : ev G a ρ = some (scD (webD n ls ms nr) pic, true)) (hx : ev G x ρ = some (P, true)) (f1 : frz (frz P) = frz P) (f2 : (frz P).fz = true) (sq : seqD (frz P) = some (is.map D.int)) :
    ev G (.call 13 (.cons a (.cons x .nil)) []) ρ = some (scD (webD n ls ms nr) (nxt n ls pic is), true) := evCall2 ha hx (K.pr.step n ls ms nr pic _ is hn O hp hs f1 f2 sq)
theorem evStep0 (K : LawG G) {ρ : Rho} {a : E} {n : Nat} {ls : List (Nat × Nat)} {ms : List Nat} {nr : List (List Nat)} {pic : List Nat} (hn : n ≤ 60) (O : WebOk n ls ms nr) (hp : pic.length = n) (hs : ∀ s ∈ pic, s ≤ 2) (ha : ev G a ρ = some (scD (webD n ls ms nr) pic, true)) :
    ev G (.call 13 (.cons a .nil) [.tup []]) ρ = some (scD (webD n ls ms nr) (nxt n ls pic []), true) := by
  rw [ev_call, evs_cons, evs_nil, ha]
  show (if List.all [D.tup []] D.dfl then (G.call 13 [scD (webD n ls ms nr) pic, .tup []]).map (·, true) else none) = _
  rw [K.pr.step n ls ms nr pic (.tup []) [] hn O hp hs rfl rfl rfl]
  rfl
theorem evCatM {ρ : Rho} {a b : E} {xs ys : List Int} {f g : Bool} (h1 : ev G a ρ = some (IL .fz xs, f)) (h2 : ev G b ρ = some (IL .fz ys, g)) (hl : xs.length + ys.length ≤ 1000) : ev G (.bin .Add a b) ρ = some (IL .own (xs ++ ys), true) := ev_bin_of h1 h2 (by
  unfold IL
  rw [binG_l]
  show (if decide (M.fz ≠ .ro) && decide (M.fz ≠ .ro) && fzs (xs.map D.int) && fzs (ys.map D.int) && decide ((xs.map D.int).length + (ys.map D.int).length ≤ most) then some (D.lst .own (xs.map D.int ++ ys.map D.int)) else none) = _
  rw [fzs_ints, fzs_ints, decide_eq_true (by rw [List.length_map, List.length_map]; unfold most; omega : (xs.map D.int).length + (ys.map D.int).length ≤ most), List.map_append]
  rfl)
theorem nxt_len (n ls pic is) : (nxt n ls pic is).length = n := by unfold nxt; simp
theorem law_main (K : LawG G) (ns : List Int) : ∃ d, runD G f24 [IL .ro ns] = some d ∧ d = .bl true := by
  have fSc := f_ILr ns
  generalize hSc : IL .ro ns = Sc at *
  refine wp_def rfl ?_
  show Wp G b24 (st Sc none none none none none none none none none none none none none none) _ _
  unfold b24
  obtain ⟨d1, e1, n1, ls1, pic1, a1, a7, al, a49, ap, as, rfl⟩ := K.scene ns 0 7 (by omega) (by omega) (by omega) (by omega)
  obtain ⟨d2, e2, n2, ls2, pic2, b1, b7, bl, b49, bp, bs, rfl⟩ := K.scene ns 2 6 (by omega) (by omega) (by omega) (by omega)
  rw [hSc] at e1 e2
  refine wp_asg (ρ1 := st Sc none none none none none none none none none none none none none none) (by unfold st; simp only [ev_slot, ev_con, ev_bin, ev_un, ev_cmp, ev_chain, ev_and, ev_or, ev_not, ev_ite, ev_idx, ev_sl, ev_fld, ev_tup, ev_lst, ev_call, ev_mk, ev_blt, ev_isi, evs_nil, evs_cons, evT_nil, evT_one, evI_lst, evI_r1, evI_r2, evI_down, evI_enum, evI_zip, binG_i, binG_l, cmpG_i, cmpG_n, cmpG_tt, cmpG_ll, len_l, len_t, int_i, int_b, tuple_l, tuple_t, list_l, list_t, binD, cmpD, unD, isiD, kdD, isK, truD, test, kept, keptS, keptI, peek, peekS, frzL, frzAt_nil, frzAt_z, frzAt_n, frzAt_s, frz_int, frz_bl, frz_non, frz_tup, frz_objn, frz_ro, frz_own, frz_fz', List.getElem?_cons_zero, List.getElem?_cons_succ, List.nil_append, List.cons_append, Option.map_some, Option.map_none, Option.bind_some, List.set_cons_zero, List.set_cons_succ, List.set_nil, fz_int, fz_bl, fz_non, fz_tup, fz_lf, fz_lr, fz_lo, fz_on, D.scal, D.isN, Bool.and_true, Bool.true_and, Bool.and_self, Bool.not_true, Bool.not_false, if_true, if_false, Bool.false_eq_true, reduceIte, reduceCtorEq, seqD_l, seqD_t, frzS_ints, fzs_ints, List.length_map, Int.reduceLT, Int.reduceLE, Int.reduceNeg, Int.reduceToNat, Int.reduceAdd, Int.reduceSub, Int.reduceMul, Int.reducePow, decide_true, decide_false, Bool.or_true, Bool.true_or, Bool.or_false, Bool.false_or, Bool.false_and, Bool.and_false, ev_keep, roots, fSc]) (d := DR .own n1 ls1 pic1) (evCall3 (x := Sc) (y := .int 0) (z := .int 7) (by rw [evSl rfl, ← hSc]; rfl) (evCon rfl) (evCon rfl) (by rw [fSc]; exact e1)) rfl ?_
  refine wp_asg (ρ1 := st Sc (some (DR .own n1 ls1 pic1)) none none none none none none none none none none none none none) (by unfold st; simp only [ev_slot, ev_con, ev_bin, ev_un, ev_cmp, ev_chain, ev_and, ev_or, ev_not, ev_ite, ev_idx, ev_sl, ev_fld, ev_tup, ev_lst, ev_call, ev_mk, ev_blt, ev_isi, evs_nil, evs_cons, evT_nil, evT_one, evI_lst, evI_r1, evI_r2, evI_down, evI_enum, evI_zip, binG_i, binG_l, cmpG_i, cmpG_n, cmpG_tt, cmpG_ll, len_l, len_t, int_i, int_b, tuple_l, tuple_t, list_l, list_t, binD, cmpD, unD, isiD, kdD, isK, truD, test, kept, keptS, keptI, peek, peekS, frzL, frzAt_nil, frzAt_z, frzAt_n, frzAt_s, frz_int, frz_bl, frz_non, frz_tup, frz_objn, frz_ro, frz_own, frz_fz', List.getElem?_cons_zero, List.getElem?_cons_succ, List.nil_append, List.cons_append, Option.map_some, Option.map_none, Option.bind_some, List.set_cons_zero, List.set_cons_succ, List.set_nil, fz_int, fz_bl, fz_non, fz_tup, fz_lf, fz_lr, fz_lo, fz_on, D.scal, D.isN, Bool.and_true, Bool.true_and, Bool.and_self, Bool.not_true, Bool.not_false, if_true, if_false, Bool.false_eq_true, reduceIte, reduceCtorEq, seqD_l, seqD_t, frzS_ints, fzs_ints, List.length_map, Int.reduceLT, Int.reduceLE, Int.reduceNeg, Int.reduceToNat, Int.reduceAdd, Int.reduceSub, Int.reduceMul, Int.reducePow, decide_true, decide_false, Bool.or_true, Bool.true_or, Bool.or_false, Bool.false_or, Bool.false_and, Bool.and_false, ev_keep, roots, fSc]; try rfl) (d := DR .own n2 ls2 pic2) (evCall3 (x := Sc) (y := .int 2) (z := .int 6) (by rw [evSl rfl, ← hSc]; rfl) (evCon rfl) (evCon rfl) (by rw [fSc]; exact e2)) rfl ?_
  obtain ⟨row, er, hd⟩ := evRow (ρ := st Sc (some (DR .own n1 ls1 pic1)) (some (DR .own n2 ls2 pic2)) none none none none none none none none none none none none) K.L (ns := ns) (i := 0) (kx := .con (.int 4)) (k := 4) (ss := [12, 7, 11, 11, 11, 11, 11, 11])
    (le := .bin .Add (.lst (.cons (.con (.int 12)) (.cons (.con (.int 7)) (.nil)))) (.bin .Mult (.lst (.cons (.con (.int 11)) (.nil))) (.con (.int 6))))
    (by rw [← hSc]; rfl) (evCon rfl) (by omega) (by omega) (evCat (xs := [12, 7]) (ys := [11, 11, 11, 11, 11, 11]) (evLst (evsI_cons (evCon rfl) (evsI_cons (evCon rfl) evsI_nil)) (by simp)) (evRep (xs := [11]) (k := 6) (evLst (evsI_cons (evCon rfl) evsI_nil) (by simp)) (evCon rfl) (by omega) (by decide)) (by decide)) (by decide) (by decide)
  refine wp_asg (ρ1 := st Sc (some (DR .own n1 ls1 pic1)) (some (DR .own n2 ls2 pic2)) none none none none none none none none none none none none) (by unfold st; simp only [ev_slot, ev_con, ev_bin, ev_un, ev_cmp, ev_chain, ev_and, ev_or, ev_not, ev_ite, ev_idx, ev_sl, ev_fld, ev_tup, ev_lst, ev_call, ev_mk, ev_blt, ev_isi, evs_nil, evs_cons, evT_nil, evT_one, evI_lst, evI_r1, evI_r2, evI_down, evI_enum, evI_zip, binG_i, binG_l, cmpG_i, cmpG_n, cmpG_tt, cmpG_ll, len_l, len_t, int_i, int_b, tuple_l, tuple_t, list_l, list_t, binD, cmpD, unD, isiD, kdD, isK, truD, test, kept, keptS, keptI, peek, peekS, frzL, frzAt_nil, frzAt_z, frzAt_n, frzAt_s, frz_int, frz_bl, frz_non, frz_tup, frz_objn, frz_ro, frz_own, frz_fz', List.getElem?_cons_zero, List.getElem?_cons_succ, List.nil_append, List.cons_append, Option.map_some, Option.map_none, Option.bind_some, List.set_cons_zero, List.set_cons_succ, List.set_nil, fz_int, fz_bl, fz_non, fz_tup, fz_lf, fz_lr, fz_lo, fz_on, D.scal, D.isN, Bool.and_true, Bool.true_and, Bool.and_self, Bool.not_true, Bool.not_false, if_true, if_false, Bool.false_eq_true, reduceIte, reduceCtorEq, seqD_l, seqD_t, frzS_ints, fzs_ints, List.length_map, Int.reduceLT, Int.reduceLE, Int.reduceNeg, Int.reduceToNat, Int.reduceAdd, Int.reduceSub, Int.reduceMul, Int.reducePow, decide_true, decide_false, Bool.or_true, Bool.true_or, Bool.or_false, Bool.false_or, Bool.false_and, Bool.and_false, ev_keep, roots, fSc]; try rfl) (d := IL .fz row) er rfl ?_
  have r0 := digs_get hd (i := 0) rfl
  have r1 := digs_get hd (i := 1) rfl
  have rl : row.length = 8 := hd.len
  have atR : ∀ {ρ : Rho} {b : E} {j : Int} {g : Bool}, ρ[3]? = some (some (IL .fz row)) → ev G b ρ = some (.int j, g) → 0 ≤ j → j < 8 → ev G (.idx (.slot 3) b) ρ = some (.int (row.getD j.toNat 0), true) := fun {ρ b j g} e hb h0 h1 => evAtI (m := .fz) (f := true) (by rw [evSl e]; rfl) hb h0 (by rw [rl]; exact h1)
  -- size
  obtain ⟨t, ht⟩ : ∃ t : Bool, t = decide (0 < row.getD 0 0) := ⟨_, rfl⟩
  obtain ⟨n, ls, pic, hn, hls, hpic, hl, hlen, hp, hs⟩ : ∃ (n : Nat) (ls : List (Nat × Nat)) (pic : List Nat), n = (if t then n1 else 0) ∧ ls = (if t then ls1 else []) ∧ pic = pic1.take n ∧ Lines n ls ∧ ls.length ≤ 49 ∧ pic.length = n ∧ ∀ s ∈ pic, s ≤ 2 := by
    refine ⟨_, _, _, rfl, rfl, rfl, ?_, ?_, ?_, fun s hs => as s (List.mem_of_mem_take hs)⟩
    · cases t
      · show Lines 0 []
        exact ⟨fun p hp => (by cases hp), List.Pairwise.nil⟩
      · exact al
    · cases t
      · simp
      · exact a49
    · rw [List.length_take]
      cases t <;> simp <;> omega
  have n7 : n ≤ 7 := by rw [hn]; cases t <;> simp <;> omega
  refine wp_asg (ρ1 := st Sc (some (DR .own n1 ls1 pic1)) (some (DR .own n2 ls2 pic2)) (some (IL .fz row)) none none none none none none none none none none none) (by unfold st; simp only [ev_slot, ev_con, ev_bin, ev_un, ev_cmp, ev_chain, ev_and, ev_or, ev_not, ev_ite, ev_idx, ev_sl, ev_fld, ev_tup, ev_lst, ev_call, ev_mk, ev_blt, ev_isi, evs_nil, evs_cons, evT_nil, evT_one, evI_lst, evI_r1, evI_r2, evI_down, evI_enum, evI_zip, binG_i, binG_l, cmpG_i, cmpG_n, cmpG_tt, cmpG_ll, len_l, len_t, int_i, int_b, tuple_l, tuple_t, list_l, list_t, binD, cmpD, unD, isiD, kdD, isK, truD, test, kept, keptS, keptI, peek, peekS, frzL, frzAt_nil, frzAt_z, frzAt_n, frzAt_s, frz_int, frz_bl, frz_non, frz_tup, frz_objn, frz_ro, frz_own, frz_fz', List.getElem?_cons_zero, List.getElem?_cons_succ, List.nil_append, List.cons_append, Option.map_some, Option.map_none, Option.bind_some, List.set_cons_zero, List.set_cons_succ, List.set_nil, fz_int, fz_bl, fz_non, fz_tup, fz_lf, fz_lr, fz_lo, fz_on, D.scal, D.isN, Bool.and_true, Bool.true_and, Bool.and_self, Bool.not_true, Bool.not_false, if_true, if_false, Bool.false_eq_true, reduceIte, reduceCtorEq, seqD_l, seqD_t, frzS_ints, fzs_ints, List.length_map, Int.reduceLT, Int.reduceLE, Int.reduceNeg, Int.reduceToNat, Int.reduceAdd, Int.reduceSub, Int.reduceMul, Int.reducePow, decide_true, decide_false, Bool.or_true, Bool.true_or, Bool.or_false, Bool.false_or, Bool.false_and, Bool.and_false, ev_keep, roots, f_ILf]; try rfl) (d := nD n) ?_ rfl ?_
  · have q1 := evMul (x := (n1 : Int)) (y := if t then 1 else 0) (evScene (G := G) (a := .skip) (b := .skip) (c := .skip) (ρ := st Sc (some (DR .own n1 ls1 pic1)) (some (DR .own n2 ls2 pic2)) (some (IL .fz row)) none none none none none none none none none none none) (i := 1) rfl).1 (evIntB (x := t) (f := true) (by rw [ht]; exact evGt (atR (j := 0) rfl (evCon rfl) (by omega) (by omega)) (evCon rfl))) (mul_l (x := (n1 : Int)) _ (by omega) (by omega))
    rw [q1]
    show some (D.int ((n1 : Int) * if t then 1 else 0), true) = some (D.int (n : Int), true)
    rw [hn]
    cases t <;> simp
  refine wp_asg (ρ1 := st Sc (some (DR .fz n1 ls1 pic1)) (some (DR .own n2 ls2 pic2)) (some (IL .fz row)) (some (nD n)) none none none none none none none none none none) (by unfold st; simp only [ev_slot, ev_con, ev_bin, ev_un, ev_cmp, ev_chain, ev_and, ev_or, ev_not, ev_ite, ev_idx, ev_sl, ev_fld, ev_tup, ev_lst, ev_call, ev_mk, ev_blt, ev_isi, evs_nil, evs_cons, evT_nil, evT_one, evI_lst, evI_r1, evI_r2, evI_down, evI_enum, evI_zip, binG_i, binG_l, cmpG_i, cmpG_n, cmpG_tt, cmpG_ll, len_l, len_t, int_i, int_b, tuple_l, tuple_t, list_l, list_t, binD, cmpD, unD, isiD, kdD, isK, truD, test, kept, keptS, keptI, peek, peekS, frzL, frzAt_nil, frzAt_z, frzAt_n, frzAt_s, frz_int, frz_bl, frz_non, frz_tup, frz_objn, frz_ro, frz_own, frz_fz', List.getElem?_cons_zero, List.getElem?_cons_succ, List.nil_append, List.cons_append, Option.map_some, Option.map_none, Option.bind_some, List.set_cons_zero, List.set_cons_succ, List.set_nil, fz_int, fz_bl, fz_non, fz_tup, fz_lf, fz_lr, fz_lo, fz_on, D.scal, D.isN, Bool.and_true, Bool.true_and, Bool.and_self, Bool.not_true, Bool.not_false, if_true, if_false, Bool.false_eq_true, reduceIte, reduceCtorEq, seqD_l, seqD_t, frzS_ints, fzs_ints, List.length_map, Int.reduceLT, Int.reduceLE, Int.reduceNeg, Int.reduceToNat, Int.reduceAdd, Int.reduceSub, Int.reduceMul, Int.reducePow, decide_true, decide_false, Bool.or_true, Bool.true_or, Bool.or_false, Bool.false_or, Bool.false_and, Bool.and_false, ev_keep, roots, f_DRo, nD_frz]; try rfl) (d := LN .own ls) ?_ rfl ?_
  · refine ev_lc (items := ls1.map lineD) ?_ (by rw [List.length_map]; omega) ?_
    · rw [evI_lst, ev_keep, (evScene (a := .skip) (b := .skip) (c := .skip) rfl).2.1]
      show seqD (frz (LN .fz ls1)) = _
      rw [f_LNf]
      rfl
    · have e : ls.map lineD = ls1.filterMap fun p => if t then some (lineD p) else none := by
        rw [hls]
        cases t
        · simp
        · simp
      rw [e]
      refine compD_sel _ _ fun p hp => ?_
      have ht2 : ev G (.cmp .Gt (.slot 4) (.con (.int 0))) [some Sc, some (DR .fz n1 ls1 pic1), some (DR .own n2 ls2 pic2), some (IL .fz row), some (nD n), none, none, none, none, none, none, none, none, none, none, some (lineD p), none, none, none] = some (.bl t, true) := by
        have := evGt (G := G) (ρ := [some Sc, some (DR .fz n1 ls1 pic1), some (DR .own n2 ls2 pic2), some (IL .fz row), some (nD n), none, none, none, none, none, none, none, none, none, none, some (lineD p), none, none, none]) (a := .slot 4) (b := .con (.int 0)) (x := (n : Int)) (y := 0) (evSl rfl) (evCon rfl)
        rw [this]
        congr 3
        rw [hn]
        cases t <;> simp <;> omega
      cases t
      · exact lcF_no (ρ' := [some Sc, some (DR .fz n1 ls1 pic1), some (DR .own n2 ls2 pic2), some (IL .fz row), some (nD n), none, none, none, none, none, none, none, none, none, none, some (lineD p), none, none, none]) rfl (by rw [evT_one]; exact test_of ht2)
      · exact lcF_yes (ρ' := [some Sc, some (DR .fz n1 ls1 pic1), some (DR .own n2 ls2 pic2), some (IL .fz row), some (nD n), none, none, none, none, none, none, none, none, none, none, some (lineD p), none, none, none]) rfl (by rw [evT_one]; exact test_of ht2) (evSl rfl)
  refine wp_asg (ρ1 := st Sc (some (DR .fz n1 ls1 pic1)) (some (DR .own n2 ls2 pic2)) (some (IL .fz row)) (some (nD n)) (some (LN .own ls)) none none none none none none none none none) (by unfold st; simp only [ev_slot, ev_con, ev_bin, ev_un, ev_cmp, ev_chain, ev_and, ev_or, ev_not, ev_ite, ev_idx, ev_sl, ev_fld, ev_tup, ev_lst, ev_call, ev_mk, ev_blt, ev_isi, evs_nil, evs_cons, evT_nil, evT_one, evI_lst, evI_r1, evI_r2, evI_down, evI_enum, evI_zip, binG_i, binG_l, cmpG_i, cmpG_n, cmpG_tt, cmpG_ll, len_l, len_t, int_i, int_b, tuple_l, tuple_t, list_l, list_t, binD, cmpD, unD, isiD, kdD, isK, truD, test, kept, keptS, keptI, peek, peekS, frzL, frzAt_nil, frzAt_z, frzAt_n, frzAt_s, frz_int, frz_bl, frz_non, frz_tup, frz_objn, frz_ro, frz_own, frz_fz', List.getElem?_cons_zero, List.getElem?_cons_succ, List.nil_append, List.cons_append, Option.map_some, Option.map_none, Option.bind_some, List.set_cons_zero, List.set_cons_succ, List.set_nil, fz_int, fz_bl, fz_non, fz_tup, fz_lf, fz_lr, fz_lo, fz_on, D.scal, D.isN, Bool.and_true, Bool.true_and, Bool.and_self, Bool.not_true, Bool.not_false, if_true, if_false, Bool.false_eq_true, reduceIte, reduceCtorEq, seqD_l, seqD_t, frzS_ints, fzs_ints, List.length_map, Int.reduceLT, Int.reduceLE, Int.reduceNeg, Int.reduceToNat, Int.reduceAdd, Int.reduceSub, Int.reduceMul, Int.reducePow, decide_true, decide_false, Bool.or_true, Bool.true_or, Bool.or_false, Bool.false_or, Bool.false_and, Bool.and_false, ev_keep, roots, nD_frz]; try rfl) (d := nsD pic) ?_ rfl ?_
  · rw [ev_sl, (evScene (a := .skip) (b := .skip) (c := .skip) rfl).2.2, evSl rfl]
    show some (D.tup (((pic1.map nD).drop 0).take (HT.sIx (pic1.map nD).length (pic1.map nD).length (some (n : Int)) - 0)), true) = _
    rw [HT.sIx_nat, List.drop_zero, Nat.sub_zero, ← List.map_take, hpic, List.length_map]
    have : min n pic1.length = n := by rw [hn]; cases t <;> simp <;> omega
    rw [this]
    rfl
  obtain ⟨dn, en, nr, k1, k2, k3, rfl⟩ := K.near n ls n7 hl (by omega)
  refine wp_asg (ρ1 := st Sc (some (DR .fz n1 ls1 pic1)) (some (DR .own n2 ls2 pic2)) (some (IL .fz row)) (some (nD n)) (some (LN .fz ls)) (some (nsD pic)) none none none none none none none none) (by unfold st; simp only [ev_slot, ev_con, ev_bin, ev_un, ev_cmp, ev_chain, ev_and, ev_or, ev_not, ev_ite, ev_idx, ev_sl, ev_fld, ev_tup, ev_lst, ev_call, ev_mk, ev_blt, ev_isi, evs_nil, evs_cons, evT_nil, evT_one, evI_lst, evI_r1, evI_r2, evI_down, evI_enum, evI_zip, binG_i, binG_l, cmpG_i, cmpG_n, cmpG_tt, cmpG_ll, len_l, len_t, int_i, int_b, tuple_l, tuple_t, list_l, list_t, binD, cmpD, unD, isiD, kdD, isK, truD, test, kept, keptS, keptI, peek, peekS, frzL, frzAt_nil, frzAt_z, frzAt_n, frzAt_s, frz_int, frz_bl, frz_non, frz_tup, frz_objn, frz_ro, frz_own, frz_fz', List.getElem?_cons_zero, List.getElem?_cons_succ, List.nil_append, List.cons_append, Option.map_some, Option.map_none, Option.bind_some, List.set_cons_zero, List.set_cons_succ, List.set_nil, fz_int, fz_bl, fz_non, fz_tup, fz_lf, fz_lr, fz_lo, fz_on, D.scal, D.isN, Bool.and_true, Bool.true_and, Bool.and_self, Bool.not_true, Bool.not_false, if_true, if_false, Bool.false_eq_true, reduceIte, reduceCtorEq, seqD_l, seqD_t, frzS_ints, fzs_ints, List.length_map, Int.reduceLT, Int.reduceLE, Int.reduceNeg, Int.reduceToNat, Int.reduceAdd, Int.reduceSub, Int.reduceMul, Int.reducePow, decide_true, decide_false, Bool.or_true, Bool.true_or, Bool.or_false, Bool.false_or, Bool.false_and, Bool.and_false, ev_keep, roots, nD_frz, f_LNo]; try rfl) (d := NL nr) (evCall2 (x := nD n) (y := LN .fz ls) (evSl rfl) (evSl rfl) (by rw [f_LNf]; exact en)) rfl ?_
  obtain ⟨ms, wr, O, ew⟩ := K.pr.web (LN .fz ls) ls n (by omega) (seqL_l ls) hl (by omega)
  refine wp_asg (ρ1 := st Sc (some (DR .fz n1 ls1 pic1)) (some (DR .own n2 ls2 pic2)) (some (IL .fz row)) (some (nD n)) (some (LN .fz ls)) (some (nsD pic)) (some (NL nr)) none none none none none none none) (by unfold st; simp only [ev_slot, ev_con, ev_bin, ev_un, ev_cmp, ev_chain, ev_and, ev_or, ev_not, ev_ite, ev_idx, ev_sl, ev_fld, ev_tup, ev_lst, ev_call, ev_mk, ev_blt, ev_isi, evs_nil, evs_cons, evT_nil, evT_one, evI_lst, evI_r1, evI_r2, evI_down, evI_enum, evI_zip, binG_i, binG_l, cmpG_i, cmpG_n, cmpG_tt, cmpG_ll, len_l, len_t, int_i, int_b, tuple_l, tuple_t, list_l, list_t, binD, cmpD, unD, isiD, kdD, isK, truD, test, kept, keptS, keptI, peek, peekS, frzL, frzAt_nil, frzAt_z, frzAt_n, frzAt_s, frz_int, frz_bl, frz_non, frz_tup, frz_objn, frz_ro, frz_own, frz_fz', List.getElem?_cons_zero, List.getElem?_cons_succ, List.nil_append, List.cons_append, Option.map_some, Option.map_none, Option.bind_some, List.set_cons_zero, List.set_cons_succ, List.set_nil, fz_int, fz_bl, fz_non, fz_tup, fz_lf, fz_lr, fz_lo, fz_on, D.scal, D.isN, Bool.and_true, Bool.true_and, Bool.and_self, Bool.not_true, Bool.not_false, if_true, if_false, Bool.false_eq_true, reduceIte, reduceCtorEq, seqD_l, seqD_t, frzS_ints, fzs_ints, List.length_map, Int.reduceLT, Int.reduceLE, Int.reduceNeg, Int.reduceToNat, Int.reduceAdd, Int.reduceSub, Int.reduceMul, Int.reducePow, decide_true, decide_false, Bool.or_true, Bool.true_or, Bool.or_false, Bool.false_or, Bool.false_and, Bool.and_false, ev_keep, roots, nD_frz, f_LNf]; try rfl) (d := webD n ls ms wr) ?_ rfl ?_
  · rw [ev_mk, evs_cons, evs_cons, evs_nil, evSl rfl, evSl rfl]
    show (if List.all [] D.dfl then (G.new 0 (frzS [nD n, LN .fz ls] ++ [])).map (·, true) else none) = _
    rw [show frzS [nD n, LN .fz ls] ++ [] = [nD n, LN .fz ls] by rw [List.append_nil, frzS_cons', frzS_cons', f_LNf]; rfl, ew]
    rfl
  have es := K.pr.scene (nsD pic) pic n ls ms wr (seqN_t pic) hp hs
  refine wp_asg (ρ1 := st Sc (some (DR .fz n1 ls1 pic1)) (some (DR .own n2 ls2 pic2)) (some (IL .fz row)) (some (nD n)) (some (LN .fz ls)) (some (nsD pic)) (some (NL nr)) (some (webD n ls ms wr)) none none none none none none) (by unfold st; simp only [ev_slot, ev_con, ev_bin, ev_un, ev_cmp, ev_chain, ev_and, ev_or, ev_not, ev_ite, ev_idx, ev_sl, ev_fld, ev_tup, ev_lst, ev_call, ev_mk, ev_blt, ev_isi, evs_nil, evs_cons, evT_nil, evT_one, evI_lst, evI_r1, evI_r2, evI_down, evI_enum, evI_zip, binG_i, binG_l, cmpG_i, cmpG_n, cmpG_tt, cmpG_ll, len_l, len_t, int_i, int_b, tuple_l, tuple_t, list_l, list_t, binD, cmpD, unD, isiD, kdD, isK, truD, test, kept, keptS, keptI, peek, peekS, frzL, frzAt_nil, frzAt_z, frzAt_n, frzAt_s, frz_int, frz_bl, frz_non, frz_tup, frz_objn, frz_ro, frz_own, frz_fz', List.getElem?_cons_zero, List.getElem?_cons_succ, List.nil_append, List.cons_append, Option.map_some, Option.map_none, Option.bind_some, List.set_cons_zero, List.set_cons_succ, List.set_nil, fz_int, fz_bl, fz_non, fz_tup, fz_lf, fz_lr, fz_lo, fz_on, D.scal, D.isN, Bool.and_true, Bool.true_and, Bool.and_self, Bool.not_true, Bool.not_false, if_true, if_false, Bool.false_eq_true, reduceIte, reduceCtorEq, seqD_l, seqD_t, frzS_ints, fzs_ints, List.length_map, Int.reduceLT, Int.reduceLE, Int.reduceNeg, Int.reduceToNat, Int.reduceAdd, Int.reduceSub, Int.reduceMul, Int.reducePow, decide_true, decide_false, Bool.or_true, Bool.true_or, Bool.or_false, Bool.false_or, Bool.false_and, Bool.and_false, ev_keep, roots, f_web, f_ns]; try rfl) (d := scD (webD n ls ms wr) pic) ?_ rfl ?_
  · rw [ev_mk, evs_cons, evs_cons, evs_nil, evSl rfl, evSl rfl]
    show (if List.all [] D.dfl then (G.new 1 [webD n ls ms wr, nsD pic]).map (·, true) else none) = _
    rw [es]
    rfl
  -- poked
  let V (v2 v7 v10 v11 v12 v13 v14 : Option D) : Rho := st Sc (some (DR .fz n1 ls1 pic1)) v2 (some (IL .fz row)) (some (nD n)) (some (LN .fz ls)) (some (nsD pic)) v7 (some (webD n ls ms wr)) (some (scD (webD n ls ms wr) pic)) v10 v11 v12 v13 v14
  obtain ⟨is, hil, eis⟩ : ∃ is : List Int, is.length ≤ 100 ∧ ev G (.bin .Add (.lc [17] (.bin .Sub (.idx (.slot 3) (.bin .Add (.con (.int 2)) (.slot 17))) (.con (.int 2))) (.name 17) (.rng1 (.idx (.slot 3) (.con (.int 1)))) (.nil)) (.sl (.lst (.cons (.bin .Pow (.con (.int 10)) (.con (.int 30))) (.cons (.bin .Sub (.con (.int 0)) (.bin .Pow (.con (.int 10)) (.con (.int 30)))) (.nil)))) (.skip) (.bin .Mod (.blt .int (.cons (.idx (.slot 3) (.con (.int 0))) (.nil))) (.con (.int 3))))) (V (some (DR .own n2 ls2 pic2)) (some (NL nr)) none none none none none) = some (IL .own is, true) := by
    have p30 : ev G (.bin .Pow (.con (.int 10)) (.con (.int 30))) (V (some (DR .own n2 ls2 pic2)) (some (NL nr)) none none none none none) = some (.int (10 ^ 30), true) := ev_bin_of (x := .int 10) (y := .int 30) (evCon rfl) (evCon rfl) (by rw [binG_i]; rfl)
    have esl : ∃ is2 : List Int, is2.length ≤ 2 ∧ ev G (.sl (.lst (.cons (.bin .Pow (.con (.int 10)) (.con (.int 30))) (.cons (.bin .Sub (.con (.int 0)) (.bin .Pow (.con (.int 10)) (.con (.int 30)))) (.nil)))) (.skip) (.bin .Mod (.blt .int (.cons (.idx (.slot 3) (.con (.int 0))) (.nil))) (.con (.int 3)))) (V (some (DR .own n2 ls2 pic2)) (some (NL nr)) none none none none none) = some (.lst .own (is2.map D.int), true) := by
      have q1 := evLst (evsI_cons p30 (evsI_cons (evSub (evCon (G := G) (d := .int 0) rfl) p30) evsI_nil)) (by simp)
      have q2 := evMod (evInt (atR (ρ := V (some (DR .own n2 ls2 pic2)) (some (NL nr)) none none none none none) (j := 0) rfl (evCon rfl) (by omega) (by omega))) (evCon (G := G) (d := .int 3) rfl) (by omega)
      refine ⟨(([10 ^ 30, 0 - 10 ^ 30] : List Int).drop (sIxD 2 0 none)).take (sIxD 2 2 (some (row.getD (0 : Int).toNat 0 % 3)) - sIxD 2 0 none), ?_, ?_⟩
      · rw [List.length_take, List.length_drop]
        simp
        omega
      · rw [ev_sl, q1, q2]
        show (if fzs (([10 ^ 30, 0 - 10 ^ 30] : List Int).map D.int) then _ else _) = _
        rw [fzs_ints, if_pos rfl, List.map_take, List.map_drop]
        rfl
    obtain ⟨is2, hl2, esl⟩ := esl
    refine ⟨((List.range (row.getD 1 0).toNat).map fun k : Nat => row.getD (2 + k) 0 - 2) ++ is2, by rw [List.length_append, List.length_map, List.length_range]; omega, evCat (f := true) ?_ esl (by rw [List.length_map, List.length_range]; omega)⟩
    refine ev_lc (items := rngD 0 (row.getD 1 0).toNat) (evI1 (j := row.getD 1 0) (atR (j := 1) rfl (evCon rfl) (by omega) (by omega)) (by omega) (by omega)) (by rw [rngD_len]; omega) ?_
    rw [rngD_map, List.map_map]
    refine compD_all _ _ fun k hk => ?_
    have hk' := List.mem_range.mp hk
    rw [show (0 : Int) + (k : Int) = (k : Int) by omega]
    refine lcF_yes (ρ' := [some Sc, some (DR .fz n1 ls1 pic1), some (DR .own n2 ls2 pic2), some (IL .fz row), some (nD n), some (LN .fz ls), some (nsD pic), some (NL nr), some (webD n ls ms wr), some (scD (webD n ls ms wr) pic), none, none, none, none, none, none, none, some (nD k), none]) rfl evT_nil ?_
    have q := evSub (atR (ρ := [some Sc, some (DR .fz n1 ls1 pic1), some (DR .own n2 ls2 pic2), some (IL .fz row), some (nD n), some (LN .fz ls), some (nsD pic), some (NL nr), some (webD n ls ms wr), some (scD (webD n ls ms wr) pic), none, none, none, none, none, none, none, some (nD k), none]) (j := 2 + (k : Int)) rfl (evAdd (evCon (G := G) (d := .int 2) rfl) (evSl (i := 17) (d := nD k) rfl)) (by omega) (by omega)) (evCon (G := G) (d := .int 2) rfl)
    rw [show ((2 : Int) + (k : Int)).toNat = 2 + k by omega] at q
    exact q
  refine wp_asg (ρ1 := V (some (DR .own n2 ls2 pic2)) (some (NL nr)) none none none none none) (by show frzL (st ..) _ = st ..; unfold st; simp only [ev_slot, ev_con, ev_bin, ev_un, ev_cmp, ev_chain, ev_and, ev_or, ev_not, ev_ite, ev_idx, ev_sl, ev_fld, ev_tup, ev_lst, ev_call, ev_mk, ev_blt, ev_isi, evs_nil, evs_cons, evT_nil, evT_one, evI_lst, evI_r1, evI_r2, evI_down, evI_enum, evI_zip, binG_i, binG_l, cmpG_i, cmpG_n, cmpG_tt, cmpG_ll, len_l, len_t, int_i, int_b, tuple_l, tuple_t, list_l, list_t, binD, cmpD, unD, isiD, kdD, isK, truD, test, kept, keptS, keptI, peek, peekS, frzL, frzAt_nil, frzAt_z, frzAt_n, frzAt_s, frz_int, frz_bl, frz_non, frz_tup, frz_objn, frz_ro, frz_own, frz_fz', List.getElem?_cons_zero, List.getElem?_cons_succ, List.nil_append, List.cons_append, Option.map_some, Option.map_none, Option.bind_some, List.set_cons_zero, List.set_cons_succ, List.set_nil, fz_int, fz_bl, fz_non, fz_tup, fz_lf, fz_lr, fz_lo, fz_on, D.scal, D.isN, Bool.and_true, Bool.true_and, Bool.and_self, Bool.not_true, Bool.not_false, if_true, if_false, Bool.false_eq_true, reduceIte, reduceCtorEq, seqD_l, seqD_t, frzS_ints, fzs_ints, List.length_map, Int.reduceLT, Int.reduceLE, Int.reduceNeg, Int.reduceToNat, Int.reduceAdd, Int.reduceSub, Int.reduceMul, Int.reducePow, decide_true, decide_false, Bool.or_true, Bool.true_or, Bool.or_false, Bool.false_or, Bool.false_and, Bool.and_false, ev_keep, roots]; try rfl) (d := IL .own is) eis rfl ?_
  refine wp_asg (ρ1 := V (some (DR .own n2 ls2 pic2)) (some (NL nr)) (some (IL .own is)) none none none none) (by show frzL (st ..) _ = st ..; unfold st; simp only [ev_slot, ev_con, ev_bin, ev_un, ev_cmp, ev_chain, ev_and, ev_or, ev_not, ev_ite, ev_idx, ev_sl, ev_fld, ev_tup, ev_lst, ev_call, ev_mk, ev_blt, ev_isi, evs_nil, evs_cons, evT_nil, evT_one, evI_lst, evI_r1, evI_r2, evI_down, evI_enum, evI_zip, binG_i, binG_l, cmpG_i, cmpG_n, cmpG_tt, cmpG_ll, len_l, len_t, int_i, int_b, tuple_l, tuple_t, list_l, list_t, binD, cmpD, unD, isiD, kdD, isK, truD, test, kept, keptS, keptI, peek, peekS, frzL, frzAt_nil, frzAt_z, frzAt_n, frzAt_s, frz_int, frz_bl, frz_non, frz_tup, frz_objn, frz_ro, frz_own, frz_fz', List.getElem?_cons_zero, List.getElem?_cons_succ, List.nil_append, List.cons_append, Option.map_some, Option.map_none, Option.bind_some, List.set_cons_zero, List.set_cons_succ, List.set_nil, fz_int, fz_bl, fz_non, fz_tup, fz_lf, fz_lr, fz_lo, fz_on, D.scal, D.isN, Bool.and_true, Bool.true_and, Bool.and_self, Bool.not_true, Bool.not_false, if_true, if_false, Bool.false_eq_true, reduceIte, reduceCtorEq, seqD_l, seqD_t, frzS_ints, fzs_ints, List.length_map, Int.reduceLT, Int.reduceLE, Int.reduceNeg, Int.reduceToNat, Int.reduceAdd, Int.reduceSub, Int.reduceMul, Int.reducePow, decide_true, decide_false, Bool.or_true, Bool.true_or, Bool.or_false, Bool.false_or, Bool.false_and, Bool.and_false, ev_keep, roots]; try rfl) (d := IL .own is) ?_ rfl ?_
  · rw [ev_blt, evs_cons, evs_nil, evSl rfl]
    show (if fzs (is.map D.int) then some (D.lst .own (is.map D.int)) else none).map _ = _
    rw [fzs_ints]
    rfl
  -- the law's step and the program's
  have eL : ∀ (v2 v10 v11 v12 v13 v14 : Option D) (x : E) (js : List Int) (m : M), (frz (IL m js) = IL .fz js) → ev G x (V v2 (some (NF nr)) v10 v11 v12 v13 v14) = some (IL m js, true) → ev G (.call 21 (.cons (.slot 7) (.cons (.slot 6) (.cons x (.nil)))) []) (V v2 (some (NF nr)) v10 v11 v12 v13 v14) = some (nsD (nxt n ls pic js), true) := fun v2 v10 v11 v12 v13 v14 x js m fm hx =>
    evCall3 (x := NF nr) (y := nsD pic) (evSl rfl) (evSl rfl) hx (by rw [f_NF, fm]; exact K.lstep n ls nr pic js n7 hl k1 k2 k3 hp hs)
  have no : ∀ {b : Bool} {P : Rho → Prop} {Q : D → Prop} {a : Ss} {ρ : Rho}, P ρ → b = false → Wp G (if b then a else .nil) ρ P Q := fun {b P Q a ρ} h e => by subst e; exact wp_nil h
  refine wp_if (ρ1 := V (some (DR .own n2 ls2 pic2)) (some (NF nr)) (some (IL .fz is)) (some (IL .fz is)) none none none) (by show frzL (st ..) _ = st ..; unfold st; simp only [ev_slot, ev_con, ev_bin, ev_un, ev_cmp, ev_chain, ev_and, ev_or, ev_not, ev_ite, ev_idx, ev_sl, ev_fld, ev_tup, ev_lst, ev_call, ev_mk, ev_blt, ev_isi, evs_nil, evs_cons, evT_nil, evT_one, evI_lst, evI_r1, evI_r2, evI_down, evI_enum, evI_zip, binG_i, binG_l, cmpG_i, cmpG_n, cmpG_tt, cmpG_ll, len_l, len_t, int_i, int_b, tuple_l, tuple_t, list_l, list_t, binD, cmpD, unD, isiD, kdD, isK, truD, test, kept, keptS, keptI, peek, peekS, frzL, frzAt_nil, frzAt_z, frzAt_n, frzAt_s, frz_int, frz_bl, frz_non, frz_tup, frz_objn, frz_ro, frz_own, frz_fz', List.getElem?_cons_zero, List.getElem?_cons_succ, List.nil_append, List.cons_append, Option.map_some, Option.map_none, Option.bind_some, List.set_cons_zero, List.set_cons_succ, List.set_nil, fz_int, fz_bl, fz_non, fz_tup, fz_lf, fz_lr, fz_lo, fz_on, D.scal, D.isN, Bool.and_true, Bool.true_and, Bool.and_self, Bool.not_true, Bool.not_false, if_true, if_false, Bool.false_eq_true, reduceIte, reduceCtorEq, seqD_l, seqD_t, frzS_ints, fzs_ints, List.length_map, Int.reduceLT, Int.reduceLE, Int.reduceNeg, Int.reduceToNat, Int.reduceAdd, Int.reduceSub, Int.reduceMul, Int.reducePow, decide_true, decide_false, Bool.or_true, Bool.true_or, Bool.or_false, Bool.false_or, Bool.false_and, Bool.and_false, ev_keep, roots, f_sc, f_web, f_ns, f_ILo, f_ILf, f_NL, f_NF]; try rfl) (evOrF (k := false) (f := true) (g := true) (evNot (x := true) (f := true) (evCheck K (a := .call 13 (.cons (.slot 9) (.cons (.slot 11) (.nil))) []) (w := .slot 8) (pic := nxt n ls pic is) (P := nsD (nxt n ls pic is)) (evStep K (P := IL .fz is) (by omega) O hp hs (evSl rfl) (evSl rfl) (by rw [f_ILf, f_ILf]) (by rw [f_ILf]; rfl) (by rw [f_ILf]; rfl)) (evSl rfl) (eL _ _ _ _ _ _ _ is .fz (f_ILf _) (evSl rfl)) (by rw [nxt_len]; omega) (seqN_t _))) ?_) (no ?_ rfl)
  · rw [ev_cmp, evSl rfl, evSl rfl]
    show (cmpG G .NotEq (IL .fz is) (IL .fz is)).map _ = _
    have : cmpG G .NotEq (IL .fz is) (IL .fz is) = (eqD (.lst .fz (is.map D.int)) (.lst .fz (is.map D.int))).map (!·) := cmpG_ll
    rw [this, eqD_li]
    rfl
  obtain ⟨ms2, wr2, O2, ew2⟩ := K.pr.web (LN .fz ls2) ls2 n2 (by omega) (seqL_l ls2) bl (by omega)
  have k20 : ∀ v7 v10 v11 v12 v13 v14 : Option D, ev G (.keep (.idx (.slot 2) (.con (.int 0)))) (V (some (DR .fz n2 ls2 pic2)) v7 v10 v11 v12 v13 v14) = some (nD n2, true) := fun v7 v10 v11 v12 v13 v14 => by rw [ev_keep]; exact (evScene (a := .skip) (b := .skip) (c := .skip) rfl).1
  have k21 : ∀ v7 v10 v11 v12 v13 v14 : Option D, ev G (.keep (.idx (.slot 2) (.con (.int 1)))) (V (some (DR .fz n2 ls2 pic2)) v7 v10 v11 v12 v13 v14) = some (LN .fz ls2, true) := fun v7 v10 v11 v12 v13 v14 => by rw [ev_keep]; exact (evScene (a := .skip) (b := .skip) (c := .skip) rfl).2.1
  have k22 : ∀ v7 v10 v11 v12 v13 v14 : Option D, ev G (.keep (.idx (.slot 2) (.con (.int 2)))) (V (some (DR .fz n2 ls2 pic2)) v7 v10 v11 v12 v13 v14) = some (nsD pic2, true) := fun v7 v10 v11 v12 v13 v14 => by rw [ev_keep]; exact (evScene (a := .skip) (b := .skip) (c := .skip) rfl).2.2
  refine wp_asg (ρ1 := V (some (DR .fz n2 ls2 pic2)) (some (NF nr)) (some (IL .fz is)) (some (IL .fz is)) none none none) (by show frzL (st ..) _ = st ..; unfold st; simp only [ev_slot, ev_con, ev_bin, ev_un, ev_cmp, ev_chain, ev_and, ev_or, ev_not, ev_ite, ev_idx, ev_sl, ev_fld, ev_tup, ev_lst, ev_call, ev_mk, ev_blt, ev_isi, evs_nil, evs_cons, evT_nil, evT_one, evI_lst, evI_r1, evI_r2, evI_down, evI_enum, evI_zip, binG_i, binG_l, cmpG_i, cmpG_n, cmpG_tt, cmpG_ll, len_l, len_t, int_i, int_b, tuple_l, tuple_t, list_l, list_t, binD, cmpD, unD, isiD, kdD, isK, truD, test, kept, keptS, keptI, peek, peekS, frzL, frzAt_nil, frzAt_z, frzAt_n, frzAt_s, frz_int, frz_bl, frz_non, frz_tup, frz_objn, frz_ro, frz_own, frz_fz', List.getElem?_cons_zero, List.getElem?_cons_succ, List.nil_append, List.cons_append, Option.map_some, Option.map_none, Option.bind_some, List.set_cons_zero, List.set_cons_succ, List.set_nil, fz_int, fz_bl, fz_non, fz_tup, fz_lf, fz_lr, fz_lo, fz_on, D.scal, D.isN, Bool.and_true, Bool.true_and, Bool.and_self, Bool.not_true, Bool.not_false, if_true, if_false, Bool.false_eq_true, reduceIte, reduceCtorEq, seqD_l, seqD_t, frzS_ints, fzs_ints, List.length_map, Int.reduceLT, Int.reduceLE, Int.reduceNeg, Int.reduceToNat, Int.reduceAdd, Int.reduceSub, Int.reduceMul, Int.reducePow, decide_true, decide_false, Bool.or_true, Bool.true_or, Bool.or_false, Bool.false_or, Bool.false_and, Bool.and_false, ev_keep, roots, f_DRo, f_DRf]; try rfl) (d := webD n2 ls2 ms2 wr2) ?_ rfl ?_
  · rw [ev_mk, evs_cons, evs_cons, evs_nil, k20, k21]
    show (if List.all [] D.dfl then (G.new 0 (frzS [nD n2, LN .fz ls2] ++ [])).map (·, true) else none) = _
    rw [show frzS [nD n2, LN .fz ls2] ++ [] = [nD n2, LN .fz ls2] by rw [List.append_nil, frzS_cons', frzS_cons', f_LNf]; rfl, ew2]
    rfl
  have es2 := K.pr.scene (PL .fz pic2) pic2 n2 ls2 ms2 wr2 (seqN_l pic2) bp bs
  refine wp_asg (ρ1 := V (some (DR .fz n2 ls2 pic2)) (some (NF nr)) (some (IL .fz is)) (some (IL .fz is)) (some (webD n2 ls2 ms2 wr2)) none none) (by show frzL (st ..) _ = st ..; unfold st; simp only [ev_slot, ev_con, ev_bin, ev_un, ev_cmp, ev_chain, ev_and, ev_or, ev_not, ev_ite, ev_idx, ev_sl, ev_fld, ev_tup, ev_lst, ev_call, ev_mk, ev_blt, ev_isi, evs_nil, evs_cons, evT_nil, evT_one, evI_lst, evI_r1, evI_r2, evI_down, evI_enum, evI_zip, binG_i, binG_l, cmpG_i, cmpG_n, cmpG_tt, cmpG_ll, len_l, len_t, int_i, int_b, tuple_l, tuple_t, list_l, list_t, binD, cmpD, unD, isiD, kdD, isK, truD, test, kept, keptS, keptI, peek, peekS, frzL, frzAt_nil, frzAt_z, frzAt_n, frzAt_s, frz_int, frz_bl, frz_non, frz_tup, frz_objn, frz_ro, frz_own, frz_fz', List.getElem?_cons_zero, List.getElem?_cons_succ, List.nil_append, List.cons_append, Option.map_some, Option.map_none, Option.bind_some, List.set_cons_zero, List.set_cons_succ, List.set_nil, fz_int, fz_bl, fz_non, fz_tup, fz_lf, fz_lr, fz_lo, fz_on, D.scal, D.isN, Bool.and_true, Bool.true_and, Bool.and_self, Bool.not_true, Bool.not_false, if_true, if_false, Bool.false_eq_true, reduceIte, reduceCtorEq, seqD_l, seqD_t, frzS_ints, fzs_ints, List.length_map, Int.reduceLT, Int.reduceLE, Int.reduceNeg, Int.reduceToNat, Int.reduceAdd, Int.reduceSub, Int.reduceMul, Int.reducePow, decide_true, decide_false, Bool.or_true, Bool.true_or, Bool.or_false, Bool.false_or, Bool.false_and, Bool.and_false, ev_keep, roots, f_DRf, f_web]; try rfl) (d := scD (webD n2 ls2 ms2 wr2) pic2) ?_ rfl ?_
  · have el : ev G (.blt .list (.cons (.keep (.idx (.slot 2) (.con (.int 2)))) (.nil))) (V (some (DR .fz n2 ls2 pic2)) (some (NF nr)) (some (IL .fz is)) (some (IL .fz is)) (some (webD n2 ls2 ms2 wr2)) none none) = some (PL .own pic2, true) := by
      rw [ev_blt, evs_cons, evs_nil, k22]
      show (if fzs (pic2.map nD) then some (D.lst .own (pic2.map nD)) else none).map _ = _
      rw [fzs_n]
      rfl
    rw [ev_mk, evs_cons, evs_cons, evs_nil, evSl rfl, el]
    show (if List.all [] D.dfl then (G.new 1 (frzS [webD n2 ls2 ms2 wr2, PL .own pic2] ++ [])).map (·, true) else none) = _
    rw [show frzS [webD n2 ls2 ms2 wr2, PL .own pic2] ++ [] = [webD n2 ls2 ms2 wr2, PL .fz pic2] by rw [List.append_nil, frzS_cons', frzS_cons', f_PLo]; rfl, es2]
    rfl
  obtain ⟨dn2, en2, nr2, l1, l2, l3, rfl⟩ := K.near n2 ls2 b7 bl (by omega)
  have eNil : ∀ ρ : Rho, ev G (.lst .nil) ρ = some (IL .own [], true) := fun ρ => evLst (ns := []) evsI_nil (by simp)
  refine wp_if (ρ1 := V (some (DR .fz n2 ls2 pic2)) (some (NF nr)) (some (IL .fz is)) (some (IL .fz is)) (some (webD n2 ls2 ms2 wr2)) (some (scD (webD n2 ls2 ms2 wr2) pic2)) none) (by show frzL (st ..) _ = st ..; unfold st; simp only [ev_slot, ev_con, ev_bin, ev_un, ev_cmp, ev_chain, ev_and, ev_or, ev_not, ev_ite, ev_idx, ev_sl, ev_fld, ev_tup, ev_lst, ev_call, ev_mk, ev_blt, ev_isi, evs_nil, evs_cons, evT_nil, evT_one, evI_lst, evI_r1, evI_r2, evI_down, evI_enum, evI_zip, binG_i, binG_l, cmpG_i, cmpG_n, cmpG_tt, cmpG_ll, len_l, len_t, int_i, int_b, tuple_l, tuple_t, list_l, list_t, binD, cmpD, unD, isiD, kdD, isK, truD, test, kept, keptS, keptI, peek, peekS, frzL, frzAt_nil, frzAt_z, frzAt_n, frzAt_s, frz_int, frz_bl, frz_non, frz_tup, frz_objn, frz_ro, frz_own, frz_fz', List.getElem?_cons_zero, List.getElem?_cons_succ, List.nil_append, List.cons_append, Option.map_some, Option.map_none, Option.bind_some, List.set_cons_zero, List.set_cons_succ, List.set_nil, fz_int, fz_bl, fz_non, fz_tup, fz_lf, fz_lr, fz_lo, fz_on, D.scal, D.isN, Bool.and_true, Bool.true_and, Bool.and_self, Bool.not_true, Bool.not_false, if_true, if_false, Bool.false_eq_true, reduceIte, reduceCtorEq, seqD_l, seqD_t, frzS_ints, fzs_ints, List.length_map, Int.reduceLT, Int.reduceLE, Int.reduceNeg, Int.reduceToNat, Int.reduceAdd, Int.reduceSub, Int.reduceMul, Int.reducePow, decide_true, decide_false, Bool.or_true, Bool.true_or, Bool.or_false, Bool.false_or, Bool.false_and, Bool.and_false, ev_keep, roots, f_DRf, f_web, f_sc]; try rfl) (evNot (x := true) (f := true) (evCheck K (a := .call 13 (.cons (.slot 13) (.nil)) [.tup []]) (w := .slot 12) (pic := nxt n2 ls2 pic2 []) (P := nsD (nxt n2 ls2 pic2 [])) (evStep0 K (by omega) O2 bp bs (evSl rfl)) (evSl rfl)
    (evCall3 (x := NL nr2) (y := nsD pic2) (z := IL .own []) (evCall2 (x := nD n2) (y := LN .fz ls2) (k20 _ _ _ _ _ _) (k21 _ _ _ _ _ _) (by rw [f_LNf]; exact en2)) (k22 _ _ _ _ _ _) (eNil _) (by rw [f_NL, f_ILo]; exact K.lstep n2 ls2 nr2 pic2 [] b7 bl l1 l2 l3 bp bs)) (by rw [nxt_len]; omega) (seqN_t _))) (no ?_ rfl)
  -- tuple(poked + poked)
  have et : ev G (.blt .tuple (.cons (.bin .Add (.slot 10) (.slot 10)) (.nil))) (V (some (DR .fz n2 ls2 pic2)) (some (NF nr)) (some (IL .fz is)) (some (IL .fz is)) (some (webD n2 ls2 ms2 wr2)) (some (scD (webD n2 ls2 ms2 wr2) pic2)) none) = some (.tup ((is ++ is).map D.int), true) := by
    rw [ev_blt, evs_cons, evs_nil, evCatM (evSl rfl) (evSl rfl) (by omega)]
    show (if fzs ((is ++ is).map D.int) then some (D.tup ((is ++ is).map D.int)) else none).map _ = _
    rw [fzs_ints]
    rfl
  have est := evStep (is := is ++ is) K (by omega) O hp hs (evSl (ρ := V (some (DR .fz n2 ls2 pic2)) (some (NF nr)) (some (IL .fz is)) (some (IL .fz is)) (some (webD n2 ls2 ms2 wr2)) (some (scD (webD n2 ls2 ms2 wr2) pic2)) none) (i := 9) rfl) et rfl rfl rfl
  rw [nxt_congr (js := is) fun x => by simp] at est
  refine wp_if (ρ1 := V (some (DR .fz n2 ls2 pic2)) (some (NF nr)) (some (IL .fz is)) (some (IL .fz is)) (some (webD n2 ls2 ms2 wr2)) (some (scD (webD n2 ls2 ms2 wr2) pic2)) none) (by show frzL (st ..) _ = st ..; unfold st; simp only [ev_slot, ev_con, ev_bin, ev_un, ev_cmp, ev_chain, ev_and, ev_or, ev_not, ev_ite, ev_idx, ev_sl, ev_fld, ev_tup, ev_lst, ev_call, ev_mk, ev_blt, ev_isi, evs_nil, evs_cons, evT_nil, evT_one, evI_lst, evI_r1, evI_r2, evI_down, evI_enum, evI_zip, binG_i, binG_l, cmpG_i, cmpG_n, cmpG_tt, cmpG_ll, len_l, len_t, int_i, int_b, tuple_l, tuple_t, list_l, list_t, binD, cmpD, unD, isiD, kdD, isK, truD, test, kept, keptS, keptI, peek, peekS, frzL, frzAt_nil, frzAt_z, frzAt_n, frzAt_s, frz_int, frz_bl, frz_non, frz_tup, frz_objn, frz_ro, frz_own, frz_fz', List.getElem?_cons_zero, List.getElem?_cons_succ, List.nil_append, List.cons_append, Option.map_some, Option.map_none, Option.bind_some, List.set_cons_zero, List.set_cons_succ, List.set_nil, fz_int, fz_bl, fz_non, fz_tup, fz_lf, fz_lr, fz_lo, fz_on, D.scal, D.isN, Bool.and_true, Bool.true_and, Bool.and_self, Bool.not_true, Bool.not_false, if_true, if_false, Bool.false_eq_true, reduceIte, reduceCtorEq, seqD_l, seqD_t, frzS_ints, fzs_ints, List.length_map, Int.reduceLT, Int.reduceLE, Int.reduceNeg, Int.reduceToNat, Int.reduceAdd, Int.reduceSub, Int.reduceMul, Int.reducePow, decide_true, decide_false, Bool.or_true, Bool.true_or, Bool.or_false, Bool.false_or, Bool.false_and, Bool.and_false, ev_keep, roots, f_web, f_sc, f_ns, f_NF, f_ILf]; try rfl) (evNot (x := true) (f := true) (evCheck K (w := .slot 8) (pic := nxt n ls pic is) (P := nsD (nxt n ls pic is)) est (evSl rfl) (eL _ _ _ _ _ _ _ is .fz (f_ILf _) (evSl rfl)) (by rw [nxt_len]; omega) (seqN_t _))) (no ?_ rfl)
  refine wp_if (ρ1 := V (some (DR .fz n2 ls2 pic2)) (some (NF nr)) (some (IL .fz is)) (some (IL .fz is)) (some (webD n2 ls2 ms2 wr2)) (some (scD (webD n2 ls2 ms2 wr2) pic2)) none) (by show frzL (st ..) _ = st ..; unfold st; simp only [ev_slot, ev_con, ev_bin, ev_un, ev_cmp, ev_chain, ev_and, ev_or, ev_not, ev_ite, ev_idx, ev_sl, ev_fld, ev_tup, ev_lst, ev_call, ev_mk, ev_blt, ev_isi, evs_nil, evs_cons, evT_nil, evT_one, evI_lst, evI_r1, evI_r2, evI_down, evI_enum, evI_zip, binG_i, binG_l, cmpG_i, cmpG_n, cmpG_tt, cmpG_ll, len_l, len_t, int_i, int_b, tuple_l, tuple_t, list_l, list_t, binD, cmpD, unD, isiD, kdD, isK, truD, test, kept, keptS, keptI, peek, peekS, frzL, frzAt_nil, frzAt_z, frzAt_n, frzAt_s, frz_int, frz_bl, frz_non, frz_tup, frz_objn, frz_ro, frz_own, frz_fz', List.getElem?_cons_zero, List.getElem?_cons_succ, List.nil_append, List.cons_append, Option.map_some, Option.map_none, Option.bind_some, List.set_cons_zero, List.set_cons_succ, List.set_nil, fz_int, fz_bl, fz_non, fz_tup, fz_lf, fz_lr, fz_lo, fz_on, D.scal, D.isN, Bool.and_true, Bool.true_and, Bool.and_self, Bool.not_true, Bool.not_false, if_true, if_false, Bool.false_eq_true, reduceIte, reduceCtorEq, seqD_l, seqD_t, frzS_ints, fzs_ints, List.length_map, Int.reduceLT, Int.reduceLE, Int.reduceNeg, Int.reduceToNat, Int.reduceAdd, Int.reduceSub, Int.reduceMul, Int.reducePow, decide_true, decide_false, Bool.or_true, Bool.true_or, Bool.or_false, Bool.false_or, Bool.false_and, Bool.and_false, ev_keep, roots, f_web, f_sc, f_ns, f_NF, f_ILf]; try rfl) (evNot (x := true) (f := true) (evCheck K (w := .slot 8) (pic := nxt n ls pic []) (P := nsD (nxt n ls pic [])) (evStep0 K (by omega) O hp hs (evSl rfl)) (evSl rfl) (eL _ _ _ _ _ _ _ [] .own (f_ILo _) (eNil _)) (by rw [nxt_len]; omega) (seqN_t _))) (no ?_ rfl)
  -- everyone
  refine wp_asg (ρ1 := V (some (DR .fz n2 ls2 pic2)) (some (NF nr)) (some (IL .fz is)) (some (IL .fz is)) (some (webD n2 ls2 ms2 wr2)) (some (scD (webD n2 ls2 ms2 wr2) pic2)) none) (by show frzL (st ..) _ = st ..; unfold st; simp only [ev_slot, ev_con, ev_bin, ev_un, ev_cmp, ev_chain, ev_and, ev_or, ev_not, ev_ite, ev_idx, ev_sl, ev_fld, ev_tup, ev_lst, ev_call, ev_mk, ev_blt, ev_isi, evs_nil, evs_cons, evT_nil, evT_one, evI_lst, evI_r1, evI_r2, evI_down, evI_enum, evI_zip, binG_i, binG_l, cmpG_i, cmpG_n, cmpG_tt, cmpG_ll, len_l, len_t, int_i, int_b, tuple_l, tuple_t, list_l, list_t, binD, cmpD, unD, isiD, kdD, isK, truD, test, kept, keptS, keptI, peek, peekS, frzL, frzAt_nil, frzAt_z, frzAt_n, frzAt_s, frz_int, frz_bl, frz_non, frz_tup, frz_objn, frz_ro, frz_own, frz_fz', List.getElem?_cons_zero, List.getElem?_cons_succ, List.nil_append, List.cons_append, Option.map_some, Option.map_none, Option.bind_some, List.set_cons_zero, List.set_cons_succ, List.set_nil, fz_int, fz_bl, fz_non, fz_tup, fz_lf, fz_lr, fz_lo, fz_on, D.scal, D.isN, Bool.and_true, Bool.true_and, Bool.and_self, Bool.not_true, Bool.not_false, if_true, if_false, Bool.false_eq_true, reduceIte, reduceCtorEq, seqD_l, seqD_t, frzS_ints, fzs_ints, List.length_map, Int.reduceLT, Int.reduceLE, Int.reduceNeg, Int.reduceToNat, Int.reduceAdd, Int.reduceSub, Int.reduceMul, Int.reducePow, decide_true, decide_false, Bool.or_true, Bool.true_or, Bool.or_false, Bool.false_or, Bool.false_and, Bool.and_false, ev_keep, roots]; try rfl) (d := IL .own ((List.range n).map fun k : Nat => (k : Int))) ?_ rfl ?_
  · refine ev_lc (items := rngD 0 n) (evI1 (j := (n : Int)) (evSl rfl) (by omega) (by omega)) (by rw [rngD_len]; omega) ?_
    rw [rngD_map, List.map_map]
    refine compD_all _ _ fun k hk => ?_
    rw [show (0 : Int) + (k : Int) = (k : Int) by omega]
    exact lcF_yes (ρ' := [some Sc, some (DR .fz n1 ls1 pic1), some (DR .fz n2 ls2 pic2), some (IL .fz row), some (nD n), some (LN .fz ls), some (nsD pic), some (NF nr), some (webD n ls ms wr), some (scD (webD n ls ms wr) pic), some (IL .fz is), some (IL .fz is), some (webD n2 ls2 ms2 wr2), some (scD (webD n2 ls2 ms2 wr2) pic2), none, none, some (nD k), none, none]) rfl evT_nil (evSl rfl)
  have e3 : ev G (.lc [18] (.bin .Mod (.blt .int (.cons (.bin .Add (.slot 18) (.con (.int 1))) (.nil))) (.con (.int 3))) (.name 18) (.lst (.slot 6)) (.nil)) (V (some (DR .fz n2 ls2 pic2)) (some (NF nr)) (some (IL .fz is)) (some (IL .fz is)) (some (webD n2 ls2 ms2 wr2)) (some (scD (webD n2 ls2 ms2 wr2) pic2)) (some (IL .fz ((List.range n).map fun k : Nat => (k : Int))))) = some (PL .own (pic.map fun s => (s + 1) % 3), true) := by
    refine ev_lc (items := pic.map nD) (by rw [evI_lst, evSl rfl]; rfl) (by rw [List.length_map]; omega) ?_
    rw [List.map_map]
    refine compD_all _ _ fun s hs => ?_
    refine lcF_yes (ρ' := [some Sc, some (DR .fz n1 ls1 pic1), some (DR .fz n2 ls2 pic2), some (IL .fz row), some (nD n), some (LN .fz ls), some (nsD pic), some (NF nr), some (webD n ls ms wr), some (scD (webD n ls ms wr) pic), some (IL .fz is), some (IL .fz is), some (webD n2 ls2 ms2 wr2), some (scD (webD n2 ls2 ms2 wr2) pic2), some (IL .fz ((List.range n).map fun k : Nat => (k : Int))), none, none, none, some (nD s)]) rfl evT_nil ?_
    rw [evMod (evInt (evAdd (x := (s : Int)) (y := 1) (evSl rfl) (evCon rfl))) (evCon (G := G) (d := .int 3) rfl) (by omega)]
    show some (D.int (((s : Int) + 1) % 3), true) = some (D.int (((s + 1) % 3 : Nat) : Int), true)
    rw [Int.natCast_emod]
    rfl
  have ev4 := evStep (is := (List.range n).map fun k : Nat => (k : Int)) (P := IL .fz ((List.range n).map fun k : Nat => (k : Int))) K (by omega) O hp hs (evSl (ρ := V (some (DR .fz n2 ls2 pic2)) (some (NF nr)) (some (IL .fz is)) (some (IL .fz is)) (some (webD n2 ls2 ms2 wr2)) (some (scD (webD n2 ls2 ms2 wr2) pic2)) (some (IL .fz ((List.range n).map fun k : Nat => (k : Int))))) (i := 9) rfl) (x := .slot 14) (evSl rfl) (by rw [f_ILf, f_ILf]) (by rw [f_ILf]; rfl) (by rw [f_ILf]; rfl)
  rw [nxt_all hp hs] at ev4
  refine wp_if (ρ1 := V (some (DR .fz n2 ls2 pic2)) (some (NF nr)) (some (IL .fz is)) (some (IL .fz is)) (some (webD n2 ls2 ms2 wr2)) (some (scD (webD n2 ls2 ms2 wr2) pic2)) (some (IL .fz ((List.range n).map fun k : Nat => (k : Int))))) (by show frzL (st ..) _ = st ..; unfold st; simp only [ev_slot, ev_con, ev_bin, ev_un, ev_cmp, ev_chain, ev_and, ev_or, ev_not, ev_ite, ev_idx, ev_sl, ev_fld, ev_tup, ev_lst, ev_call, ev_mk, ev_blt, ev_isi, evs_nil, evs_cons, evT_nil, evT_one, evI_lst, evI_r1, evI_r2, evI_down, evI_enum, evI_zip, binG_i, binG_l, cmpG_i, cmpG_n, cmpG_tt, cmpG_ll, len_l, len_t, int_i, int_b, tuple_l, tuple_t, list_l, list_t, binD, cmpD, unD, isiD, kdD, isK, truD, test, kept, keptS, keptI, peek, peekS, frzL, frzAt_nil, frzAt_z, frzAt_n, frzAt_s, frz_int, frz_bl, frz_non, frz_tup, frz_objn, frz_ro, frz_own, frz_fz', List.getElem?_cons_zero, List.getElem?_cons_succ, List.nil_append, List.cons_append, Option.map_some, Option.map_none, Option.bind_some, List.set_cons_zero, List.set_cons_succ, List.set_nil, fz_int, fz_bl, fz_non, fz_tup, fz_lf, fz_lr, fz_lo, fz_on, D.scal, D.isN, Bool.and_true, Bool.true_and, Bool.and_self, Bool.not_true, Bool.not_false, if_true, if_false, Bool.false_eq_true, reduceIte, reduceCtorEq, seqD_l, seqD_t, frzS_ints, fzs_ints, List.length_map, Int.reduceLT, Int.reduceLE, Int.reduceNeg, Int.reduceToNat, Int.reduceAdd, Int.reduceSub, Int.reduceMul, Int.reducePow, decide_true, decide_false, Bool.or_true, Bool.true_or, Bool.or_false, Bool.false_or, Bool.false_and, Bool.and_false, ev_keep, roots, f_web, f_sc, f_ns, f_NF, f_ILf, f_ILo]; try rfl) (evNot (x := true) (f := true) (evCheck K (w := .slot 8) ev4 (evSl rfl) e3 (by rw [List.length_map]; omega) (by rw [f_PLo]; exact seqN_l _))) (no ?_ rfl)
  exact wp_ret (ρ1 := V (some (DR .fz n2 ls2 pic2)) (some (NF nr)) (some (IL .fz is)) (some (IL .fz is)) (some (webD n2 ls2 ms2 wr2)) (some (scD (webD n2 ls2 ms2 wr2) pic2)) (some (IL .fz ((List.range n).map fun k : Nat => (k : Int))))) (by show frzL (st ..) _ = st ..; unfold st; simp only [ev_slot, ev_con, ev_bin, ev_un, ev_cmp, ev_chain, ev_and, ev_or, ev_not, ev_ite, ev_idx, ev_sl, ev_fld, ev_tup, ev_lst, ev_call, ev_mk, ev_blt, ev_isi, evs_nil, evs_cons, evT_nil, evT_one, evI_lst, evI_r1, evI_r2, evI_down, evI_enum, evI_zip, binG_i, binG_l, cmpG_i, cmpG_n, cmpG_tt, cmpG_ll, len_l, len_t, int_i, int_b, tuple_l, tuple_t, list_l, list_t, binD, cmpD, unD, isiD, kdD, isK, truD, test, kept, keptS, keptI, peek, peekS, frzL, frzAt_nil, frzAt_z, frzAt_n, frzAt_s, frz_int, frz_bl, frz_non, frz_tup, frz_objn, frz_ro, frz_own, frz_fz', List.getElem?_cons_zero, List.getElem?_cons_succ, List.nil_append, List.cons_append, Option.map_some, Option.map_none, Option.bind_some, List.set_cons_zero, List.set_cons_succ, List.set_nil, fz_int, fz_bl, fz_non, fz_tup, fz_lf, fz_lr, fz_lo, fz_on, D.scal, D.isN, Bool.and_true, Bool.true_and, Bool.and_self, Bool.not_true, Bool.not_false, if_true, if_false, Bool.false_eq_true, reduceIte, reduceCtorEq, seqD_l, seqD_t, frzS_ints, fzs_ints, List.length_map, Int.reduceLT, Int.reduceLE, Int.reduceNeg, Int.reduceToNat, Int.reduceAdd, Int.reduceSub, Int.reduceMul, Int.reducePow, decide_true, decide_false, Bool.or_true, Bool.true_or, Bool.or_false, Bool.false_or, Bool.false_and, Bool.and_false, ev_keep, roots, f_web, f_sc, f_ns]; try rfl) (evCheck K (P := nsD pic) (evSl rfl) (evSl rfl) (evSl rfl) (by omega) (seqN_t _)) rfl
end
end P5

/-! M5q: end. -/
namespace P5
open PySem L2 Z Bt
theorem lwOk_G (d : Nat) : LwOk (Gn 1000 (d + 1)) where
  cell := fun ns k h0 h1 => by
    have e : (Gn 1000 (d + 1)).call 15 = runD (Gn 1000 d) f15 := rfl
    rw [e]
    exact cell_ok _ ns k h0 h1
  digs := fun c ss h hl => by
    have e : (Gn 1000 (d + 1)).call 16 = runD (Gn 1000 d) f16 := rfl
    rw [e]
    exact digits_ok _ c ss h hl
theorem lawG (d : Nat) : LawG (Gn 1000 (d + 8)) where
  L := lwOk_G (d + 7)
  pr := pr_ok (d + 2)
  scene := fun ns at_ mo h0 h1 hm h7 => by
    have e : (Gn 1000 (d + 8)).call 19 = runD (Gn 1000 (d + 7)) f19 := rfl
    have e17 : (Gn 1000 (d + 7)).call 17 = runD (Gn 1000 (d + 6)) f17 := rfl
    have e18 : (Gn 1000 (d + 7)).call 18 = runD (Gn 1000 (d + 6)) f18 := rfl
    rw [e]
    exact law_scene_ok (lwOk_G (d + 6)) (fun row hr mo h1 h7 => by rw [e17]; exact law_web_ok hr h1 h7) (fun row hl hd n hn => by rw [e18]; exact law_pic_ok hl hd hn) ns at_ mo h0 h1 hm h7
  near := fun n ls hn hl h => by
    have e : (Gn 1000 (d + 8)).call 20 = runD (Gn 1000 (d + 7)) f20 := rfl
    rw [e]
    exact law_near_ok hn hl h
  lstep := fun n ls nr pic is hn hl h1 h2 h3 hp hs => by
    have e : (Gn 1000 (d + 8)).call 21 = runD (Gn 1000 (d + 7)) f21 := rfl
    rw [e]
    exact law_step_ok hn hl h1 h2 h3 hp hs is
  isc := fun n ls ms nr pic P hl S => by
    have e : (Gn 1000 (d + 8)).call 23 = runD (Gn 1000 (d + 7)) f23 := rfl
    have e4 : (Gn 1000 (d + 7)).call 4 = runD (Gn 1000 (d + 6)) f4 := rfl
    have e22 : (Gn 1000 (d + 7)).call 22 = runD (Gn 1000 (d + 6)) f22 := rfl
    have e14 : (Gn 1000 (d + 6)).call 14 = runD (Gn 1000 (d + 5)) f14 := rfl
    rw [e]
    exact is_scene_ok rfl (fun n ls ms nr => by rw [e4]; exact web_eq_ok n ls ms nr) (fun l hl => by rw [e22]; exact law_row_ok (fun i => by rw [e14]; exact whole_int _ i) l hl) n ls ms nr pic hl P S
theorem main (ns : List Int) (h : ns.length ≤ 63) : runD (Gn 1000 12) f24 [.lst .ro (ns.map D.int)] = some (.bl true) := by
  obtain ⟨d, e, rfl⟩ := law_main (lawG 4) ns
  exact e
end P5

open PySem PySem.W PyProof.Rows
set_option maxRecDepth 100000 in
set_option maxHeartbeats 0 in
theorem PySem.Challenge.cw_firerest_k05_one_beat_holds : PySem.Challenge.rw_firerest_k05_one_beat.Holds := by
  w_on; o_law; k_head; (case hw => w_witness2)
  k_fill
  refine L2.walk_of (n := 63) (k := 2 * 12 + 2) (x := "script") (CX := fun _ => C8.CX0) (sp := fun w => P5.spLaw _) rfl (by decide) rfl ⟨rfl, by decide, by decide⟩ (fun w h Y => PySem.W.kIn_of Y) ?F (fun _ _ a ns hl _ hS => ⟨a, ns, rfl, hS, hl, fun _ => rfl⟩) fun _ _ _ _ _ z => z
  case F =>
    intro w mg fa h KX G hmg
    refine' P5.fin (wf := 1000) (d := 12) P5.main KX G hmg ?cx0 ?pg0 ?hd0 ?po0 ?sa0 ?mk0 ?kc0 ?sf0 ?ha0 ?hm0 ?me0 ?n0_0 ?n0_1 ?n0_2 ?n0_3 ?n0_4 ?n0_5 ?cx1 ?pg1 ?hd1 ?po1 ?sa1 ?mk1 ?kc1 ?sf1 ?ha1 ?hm1 ?me1 ?n1_0 ?n1_1 ?n1_2 ?n1_3 ?n1_4 ?n1_5 ?x0 ?l0 ?e0 ?u0 ?x1 ?l1 ?e1 ?u1 ?x2 ?l2 ?e2 ?u2 ?x3 ?i3 ?l3 ?e3 ?u3 ?w3_0 ?v3 ?x4 ?i4 ?l4 ?e4 ?u4 ?x5 ?l5 ?e5 ?u5 ?x6 ?i6 ?l6 ?e6 ?u6 ?x7 ?i7 ?l7 ?e7 ?u7 ?x8 ?l8 ?e8 ?u8 ?x9 ?l9 ?e9 ?u9 ?x10 ?l10 ?e10 ?u10 ?x11 ?l11 ?e11 ?u11 ?x12 ?l12 ?e12 ?u12 ?x13 ?l13 ?e13 ?u13 ?w13_0 ?v13 ?x14 ?l14 ?e14 ?u14 ?x15 ?l15 ?e15 ?u15 ?x16 ?l16 ?e16 ?u16 ?x17 ?l17 ?e17 ?u17 ?x18 ?l18 ?e18 ?u18 ?x19 ?l19 ?e19 ?u19 ?x20 ?l20 ?e20 ?u20 ?x21 ?l21 ?e21 ?u21 ?x22 ?l22 ?e22 ?u22 ?x23 ?l23 ?e23 ?u23 ?x24 ?l24 ?e24 ?u24 ?ghn ?gtk ?z_bool ?z_enumerate ?z_int ?z_isinstance ?z_len ?z_list ?z_max ?z_min ?z_range ?z_set ?z_sorted ?z_tuple
    (case cx0 => k_is)
    (case pg0 => k_is)
    (case hd0 => k_is)
    (case po0 => k_is)
    (case sa0 => k_is)
    (case mk0 => k_is)
    (case kc0 => k_is)
    (case sf0 => k_is)
    (case ha0 => k_is)
    (case hm0 => k_is)
    (case me0 => kit_is)
    (case n0_0 => k_is)
    (case n0_1 => k_is)
    (case n0_2 => k_is)
    (case n0_3 => k_is)
    (case n0_4 => k_is)
    (case n0_5 => k_is)
    (case cx1 => k_is)
    (case pg1 => k_is)
    (case hd1 => k_is)
    (case po1 => k_is)
    (case sa1 => k_is)
    (case mk1 => k_is)
    (case kc1 => k_is)
    (case sf1 => k_is)
    (case ha1 => k_is)
    (case hm1 => k_is)
    (case me1 => kit_is)
    (case n1_0 => k_is)
    (case n1_1 => k_is)
    (case n1_2 => k_is)
    (case n1_3 => k_is)
    (case n1_4 => k_is)
    (case n1_5 => k_is)
    (case x0 => k_is)
    (case l0 => k_is)
    (case e0 => k_is)
    (case u0 => k_is)
    (case x1 => k_is)
    (case l1 => k_is)
    (case e1 => k_is)
    (case u1 => k_is)
    (case x2 => k_is)
    (case l2 => k_is)
    (case e2 => k_is)
    (case u2 => k_is)
    (case x3 => k_is)
    (case i3 => k_is)
    (case l3 => k_is)
    (case e3 => k_is)
    (case u3 => k_is)
    (case v3 => k_is)
    (case x4 => k_is)
    (case i4 => k_is)
    (case l4 => k_is)
    (case e4 => k_is)
    (case u4 => k_is)
    (case x5 => k_is)
    (case l5 => k_is)
    (case e5 => k_is)
    (case u5 => k_is)
    (case x6 => k_is)
    (case i6 => k_is)
    (case l6 => k_is)
    (case e6 => k_is)
    (case u6 => k_is)
    (case x7 => k_is)
    (case i7 => k_is)
    (case l7 => k_is)
    (case e7 => k_is)
    (case u7 => k_is)
    (case x8 => k_is)
    (case l8 => k_is)
    (case e8 => k_is)
    (case u8 => k_is)
    (case x9 => k_is)
    (case l9 => k_is)
    (case e9 => k_is)
    (case u9 => k_is)
    (case x10 => k_is)
    (case l10 => k_is)
    (case e10 => k_is)
    (case u10 => k_is)
    (case x11 => k_is)
    (case l11 => k_is)
    (case e11 => k_is)
    (case u11 => k_is)
    (case x12 => k_is)
    (case l12 => k_is)
    (case e12 => k_is)
    (case u12 => k_is)
    (case x13 => k_is)
    (case l13 => k_is)
    (case e13 => k_is)
    (case u13 => k_is)
    (case v13 => k_is)
    (case x14 => k_is)
    (case l14 => k_is)
    (case e14 => k_is)
    (case u14 => k_is)
    (case x15 => k_is)
    (case l15 => k_is)
    (case e15 => k_is)
    (case u15 => k_is)
    (case x16 => k_is)
    (case l16 => k_is)
    (case e16 => k_is)
    (case u16 => k_is)
    (case x17 => k_is)
    (case l17 => k_is)
    (case e17 => k_is)
    (case u17 => k_is)
    (case x18 => k_is)
    (case l18 => k_is)
    (case e18 => k_is)
    (case u18 => k_is)
    (case x19 => k_is)
    (case l19 => k_is)
    (case e19 => k_is)
    (case u19 => k_is)
    (case x20 => k_is)
    (case l20 => k_is)
    (case e20 => k_is)
    (case u20 => k_is)
    (case x21 => k_is)
    (case l21 => k_is)
    (case e21 => k_is)
    (case u21 => k_is)
    (case x22 => k_is)
    (case l22 => k_is)
    (case e22 => k_is)
    (case u22 => k_is)
    (case x23 => k_is)
    (case l23 => k_is)
    (case e23 => k_is)
    (case u23 => k_is)
    (case x24 => k_is)
    (case l24 => k_is)
    (case e24 => k_is)
    (case u24 => k_is)
    (case ghn => k_is)
    (case gtk => k_is)
    (case z_bool => k_is)
    (case z_enumerate => k_is)
    (case z_int => k_is)
    (case z_isinstance => k_is)
    (case z_len => k_is)
    (case z_list => k_is)
    (case z_max => k_is)
    (case z_min => k_is)
    (case z_range => k_is)
    (case z_set => k_is)
    (case z_sorted => k_is)
    (case z_tuple => k_is)
    (case w3_0 => k_is)
    (case w13_0 => k_is)
#print axioms PySem.Challenge.cw_firerest_k05_one_beat_holds
