import PyProof.Rows.All
import Wide.All
import OpenK.AllK
import Wide.FinOn
import HandS.ForMost
import PyProof.ReprRoads
import HandS.Wide
import HandS.Style
import HandS.Evl
import PySem.Challenge.RW_lookdone_k03_values_lie_within_spans
set_option Elab.async false
set_option linter.all false
set_option maxRecDepth 100000
set_option maxHeartbeats 4000000
namespace GR
open PySem PySem.Spec PyProof.Rows L2

/-! ### data that stands in the abstract heap -/
section
variable {X : Cx} {pins : List (Addr × Obj)} {σ : L2.St} {H : Hp} {s : Shared}
mutual
theorem nodict {K : PySem.W.Frag} : ∀ {v : V} {d : PyData}, Dp K H v d → d.hasDict = false
  | _, _, .non => by simp only [PyData.hasDict]
  | _, _, .bl b => by simp only [PyData.hasDict]
  | _, _, .int i => by simp only [PyData.hasDict]
  | _, _, .str x => by simp only [PyData.hasDict]
  | _, _, .lst _ q => by simp only [PyData.hasDict, nodicts q]
  | _, _, .tup _ q => by simp only [PyData.hasDict, nodicts q]
theorem nodicts {K : PySem.W.Frag} : ∀ {vs : List V} {ds : List PyData}, DpAll K H vs ds → PyData.hasDictAll ds = false
  | _, _, .nil => by simp only [PyData.hasDictAll]
  | _, _, .cons h q => by simp only [PyData.hasDictAll, nodict h, nodicts q, Bool.or_self]
end

/-- repr of a list or a tuple of data -/
def rRepr (X : Cx) : List V → Hp → VK → Prop := fun xs H Q => ∃ (a : Addr) (d : PyData), xs = [.ref a] ∧ Dp X.K H (.ref a) d ∧ d.showable = true ∧ d.depth ≤ 60 ∧ d.shown.length ≤ sizeLine ∧ Q (.str d.shown) H
theorem call_reprD {k : Nat} (hg : X.A.guards = some []) (hr : Room k X.A) : CallR X (.builtin "repr") (rRepr X) := by
  intro pins s σ H xs us Q I r h
  obtain ⟨a, d, rfl, hd, hs, hdep, hz, q⟩ := h
  obtain ⟨u, rfl, rv⟩ := vals1 r
  obtain rfl : u = Value.ref a := rv
  obtain ⟨as, hR⟩ := Dp.reads I d _ _ hd rfl
  have hu := hr.units
  exact repr_of_reads' hR hs (PyData.noDict_hsm (nodict hd)) hg (by omega) (fun _ _ e => e) (fun h' u tk hk => ⟨.str d.shown, H, I.kept hk, ⟨_, rfl⟩, q⟩) hz
end

/-! ### defs that show things: a promise kept wherever nothing is being shown -/
structure FnG (P : Program) (w : World) (K : PySem.W.Frag) (mg : Str → Option Value) (base : Heap) (CX : CXT) (k : Nat) (f : Addr) (fd : FuncData) (ps : List Str) (sp : Sp) : Prop where
  size : ∀ vs H Q E, sp vs H Q E → vs.length = ps.length
  go : ∀ (A : Around) (outer : List Env) (s : Shared) (H : Hp) (args : Args) (us : List Value) (vs : List V) (Q : VK) (E : XK),
    A.guards = some [] → Room k A → Env0 P w K mg base A outer s H → BindsTo s fd args (ps.zip us) → Vals vs us → sp vs H Q E →
    codeAny (model P w) A (.call (.ref f) args) (CR CX outer P w H s Q E) s

section
variable {P : Program} {w : World} {K : PySem.W.Frag} {mg : Str → Option Value} {base : Heap}
theorem FnG.of {CX : CXT} {k : Nat} {f : Addr} {fd : FuncData} {ps : List Str} {sp : Sp} (F : FnOk P w K mg base CX k f fd ps sp) : FnG P w K mg base CX k f fd ps sp :=
  ⟨F.len, fun A outer s H args us vs Q E _ => F.run A outer s H args us vs Q E⟩

/-- a def by its body, where nothing is being shown -/
theorem ok_g {x qual : Str} {st : Stmt} {f : Addr} {fd : FuncData} {N ps : List Str} {k : Nat} {sp : Sp} (F : Fun K x qual st f fd) (S : FnScope N ps (defScope st)) (size : ∀ vs H Q E, sp vs H Q E → vs.length = ps.length)
    (body : ∀ (cdv : Value) (A : Around) (outer : List Env) (s : Shared) (H : Hp) (vs : List V) (Q : VK) (E : XK), A.guards = some [] → Room k (A.deeper (envOfC qual (defScope st) s.heap.objs.size f cdv)) → sp vs H Q E →
      ∃ t, PSs (cxOf CX0 P w K mg base N qual (defScope st) f cdv A outer s H E).nox (defBody st) t ∧ t { nx := fun _ H' => Q .non H', rt := Q } (start N vs) H) : FnG P w K mg base CX0 (k + 1) f fd ps sp := by
  obtain ⟨oc, od, kV, doc, pm, an, cdv, ct, osl, rfl, lk, hcd⟩ := F.ex
  constructor
  · exact size
  intro A outer s H args us vs Q E gA room e0 bnd rel hsp
  have inK : K.In s.heap := e0.mod.kin.keeps (fun b o q => (e0.bs b o q).1)
  have nolim := e0.mod.nolimit.keeps (fun b o q => (e0.bs b o q).1)
  obtain ⟨t, ht, hq⟩ := body cdv A outer s H vs Q E gA (room.deeper _) hsp
  refine codeAny_call_function room.depth (inK f _ lk) rfl S.co S.gen rfl (PySem.W.codeRec_of inK hcd) (bnd _ _ _ _ ?_)
  refine wpAny_newFunctionEnv_cells S.kind ?par (fun env he s1 inC => ?run)
  case par =>
    rintro ⟨n, v⟩ hy
    rcases S.par n (List.of_mem_zip hy).1 with q | q
    · exact Or.inl q
    · exact Or.inr ⟨q, PySem.W.cellsFrom_some _ _ _ (Or.inl q)⟩
  case run =>
    cases he
    refine And.intro (nolim.keeps inC.toInCall.keep) (codeAny_func ?_)
    have I0 := inv_start (CX := CX0) (P := P) (w := w) (K := K) (mg := mg) (base := base) (E := E) S room.hd e0 (size _ _ _ _ hsp) rel inC
    refine wpAny_mono (ht.nox.run [] s1 (start N vs) H _ I0 hq) ?_ (fun _ _ z => z)
    rintro fl s' hs
    have close : ∀ (σ' : L2.St) (H' : Hp) (v : V) (u : Value), Inv (cxOf CX0 P w K mg base N qual (defScope st) f cdv A outer s H E) [] σ' H' s' → RelV v u → Q v H' → CE outer P w H s Q u s' := by
      intro σ' H' v u J rv q
      exact ⟨v, H', J.os, J.bare, J.base, J.hok, rv, q⟩
    cases fl
    case ret u => obtain ⟨v, σ', H', J, rv, q⟩ := hs; exact close _ _ _ _ J rv q
    case next => obtain ⟨σ', H', J, q⟩ := hs; exact close _ _ V.non Value.none J rfl q
    case brk => obtain ⟨_, _, _, q⟩ := hs; exact q.elim
    case cont => obtain ⟨_, _, _, q⟩ := hs; exact q.elim
end

section
variable {X : Cx} {CX : CXT} {k : Nat} {f : Addr} {fd : FuncData} {ps : List Str} {sp : Sp} {E : XK} {x : Str} {p pos : Pos} {e : Expr} {es : List Expr} {t : TA}
/-- its call -/
theorem pe_callG (F : FnG X.prog X.w X.K X.mg X.base CX k f fd ps sp) (hg : X.A.guards = some []) (hr : Room k X.A) (gx : Gl X x) (hm : X.mg x = some (.ref f)) (hk : PySem.W.keepIn X.K (.ref f) = true) (hb : Binds X.K fd ps []) (hx : Passes CX X E)
    (ha : PA X (e :: es) t) (hdb : (x == ("__debug__" : Str)) = false := by decide) (he : starEach (e :: es) X.env = (false, eval e X.env) :: starEach es X.env := by rfl) (hpl : (backTo pos (starEach es X.env)).any (·.1) = false := by rfl) :
    PE X (.Call (.Name x p) (e :: es) [] pos) (tCall sp [] E t) := by
  constructor
  intro pins s σ H Q I h
  refine wpAny_Call_Name_kw (ld_glob I gx hm (PySem.W.callWith_K (h₀ := X.base) I.ok.mod.kin hk (thn (ha.run pos pins s σ H _ I h) ?_) he hpl) hdb)
  rintro us s1 ⟨vs, H1, I1, r, q⟩
  refine ⟨I1.kIn, ?_⟩
  have q' : sp vs H1 Q E := by simpa using q
  have hl : us.length = ps.length := by
    rw [← r.length]
    exact F.size _ _ _ _ q'
  have hB := hb s1 us I1.kIn (by simpa using hl)
  rw [List.append_nil] at hB
  refine wpAny_call (codeAny_mono (F.go X.A X.stack s1 H1 ⟨us, []⟩ us vs Q E hg hr I1.env0 hB r q') ?_)
  rintro (er | fl) s2 hq
  · exact hx pins σ H1 s1 er s2 I1 hq
  · cases fl
    case ret u => exact I1.after hq
    case next => exact hq.elim
    case brk => exact hq.elim
    case cont => exact hq.elim
end

/-- a comprehension without a test -/
theorem yes_then {σ : L2.St} {H : Hp} {A B : Hp → Prop} (h : A H) : tYes σ H (fun b H3 => if b = true then A H3 else B H3) := by
  show (if true = true then A H else B H)
  rw [if_pos rfl]
  exact h

/-! ### the law's own call -/
/-- the abstract heap in which the script alone is tracked, as it stands -/
def scriptHp (a : Addr) (o : Obj) (xs : List V) : Hp := fun b => if b = a then some (.frz o (.lst xs)) else none
theorem scriptHp_at {a : Addr} {o : Obj} {xs : List V} : scriptHp a o xs a = some (.frz o (.lst xs)) := if_pos rfl
theorem scriptHp_some {a b : Addr} {o : Obj} {xs : List V} {u : HO} (h : scriptHp a o xs b = some u) : b = a ∧ u = .frz o (.lst xs) := by
  unfold scriptHp at h
  split at h
  · rename_i e
    exact ⟨e, (Option.some.inj h).symm⟩
  · cases h

theorem ns_hid {h : Heap} {H : Hp} {b : Addr} {m : Str → Option Value} (q : h.Ns b m) (hb : H b = none) : (hidT h H).Ns b m := by
  obtain ⟨o, es, ep, e, r⟩ := q
  exact ⟨o, es, ep, hidT_get e hb, r⟩

theorem law_callG {P : Program} {w : World} {K : PySem.W.Frag} {mg mb : Str → Option Value} {k : Nat} {fa a : Addr} {fd : FuncData} {x : Str} {sp : Sp} {s₁ : Shared} {vs : List Value} {ns : List Int}
    (KX : K.In s₁.heap) (hns : s₁.heap.Ns mainGlobals mg) (hb : s₁.heap.Ns builtinsNs mb) (hbb : ∀ x : Str, x ≠ "__name__" → mb x = bootBuiltins x) (hlim : s₁.heap.NoLimit) (hg : s₁.gens = #[])
    (ha : s₁.heap.get? a = some { cls := .type "list", data := .seq vs.toArray }) (hi : IntsAre vs ns) (hl : ns.length ≤ sizeLine) (hr : Room k callerA)
    (F : ∀ base : Heap, K.In base → base.Ns mainGlobals mg → FnG P w K mg base CX0 k fa fd [x] sp) (hbind : ∀ (s : Shared) (u : Value), BindsTo s fd ⟨[u], []⟩ [(x, u)])
    (hsp : ∀ H : Hp, Only H → SqL K H a (ns.map V.int) → sp [.ref a] H (fun v _ => v = .bl true) fun _ _ _ => False) :
    codeAny (model P w) callerA (.call (.ref fa) ⟨[.ref a], []⟩) (fun r s' => r = .ok (.ret (.bool true)) ∧ OldK s₁.heap s'.heap ∧ s'.os = s₁.os ∧ AllBare s'.gens) s₁ := by
  have main : ∀ H : Hp, Only H → SqL K H a (ns.map V.int) → HOk P w H s₁.heap → (∀ b u, H b = some u → b = a ∧ K.lookup a = none) →
      codeAny (model P w) callerA (.call (.ref fa) ⟨[.ref a], []⟩) (fun r s' => r = .ok (.ret (.bool true)) ∧ OldK s₁.heap s'.heap ∧ s'.os = s₁.os ∧ AllBare s'.gens) s₁ := by
    intro H only seq ok one
    have free : ∀ b, (∀ o n, s₁.heap.get? b = some o → o.data ≠ .seq vs.toArray n) → H b = none := by
      intro b nb
      cases q : H b with
      | none => rfl
      | some u =>
        obtain ⟨rfl, _⟩ := one b u q
        exact absurd rfl (nb _ _ ha)
    have freeD : ∀ {b : Addr} {m : Str → Option Value}, s₁.heap.Ns b m → H b = none := by
      rintro b m ⟨o, es, ep, e, d, _⟩
      refine free b fun o' n e' d' => ?_
      rw [e] at e'
      cases e'
      rw [d] at d'
      cases d'
    have inB : K.In (hidT s₁.heap H) := by
      intro b o e
      refine hidT_get (KX b o e) ?_
      cases q : H b with
      | none => rfl
      | some u =>
        obtain ⟨rfl, z⟩ := one b u q
        rw [z] at e
        cases e
    have gB := ns_hid hns (freeD hns)
    have md : Mod K mg (hidT s₁.heap H) := by
      refine ⟨inB, gB, ⟨mb, ns_hid hb (freeD hb), hbb⟩, ?_⟩
      obtain ⟨mc, h1, h2⟩ := hlim
      exact ⟨mc, ns_hid h1 (freeD h1), h2⟩
    have start0 : Env0 P w K mg (hidT s₁.heap H) callerA [] s₁ H := by
      constructor
      · rfl
      · exact md
      · exact fun b o e => of_hidT e
      · exact Nat.le_of_eq (hidT_size _ _)
      · trivial
      · intro b hb
        exact absurd (show b ∈ ([] : List Addr) from hb) (by simp)
      · exact ok
      · exact .of_eq hg
    have run := (F _ inB gB).go callerA [] s₁ H ⟨[.ref a], []⟩ [.ref a] [.ref a] (fun v _ => v = .bl true) (fun _ _ _ => False) rfl hr start0 (hbind s₁ (.ref a)) (.cons rfl .nil) (hsp H only seq)
    refine codeAny_mono run ?_
    rintro (er | fl) s' h
    · exact False.elim h
    cases fl with
    | next => exact False.elim h
    | brk => exact False.elim h
    | cont => exact False.elim h
    | ret u =>
      obtain ⟨v, H', os, bare, un, ok', rv, q⟩ := h
      cases (show v = .bl true from q)
      cases (show u = Value.bool true from rv)
      refine ⟨rfl, OldK.of_keep ?_, os, bare⟩
      intro b o e
      cases z : H b with
      | none => exact un.keep b o e z (fun m => absurd (show b ∈ ([] : List Addr) from m) (by simp)) (by simp)
      | some u =>
        rcases only b with z' | ⟨ob, xs, z'⟩
        · rw [z] at z'
          cases z'
        · have e1 := (ok b _ z').1
          have e2 := (ok' b _ (un.frzs b ob _ z')).1
          rw [e] at e1
          rw [e1]
          exact e2
  have rv := vals_ints hi
  cases hk : K.lookup a with
  | some o =>
    have e := KX a o hk
    rw [ha] at e
    cases e
    refine main (fun _ => none) (fun _ => .inl rfl) (.inr ⟨_, vs.toArray, _, hk, rfl, rfl, rfl, ?_, by simpa using rv⟩) ?_ ?_
    · rw [List.size_toArray, hi.length]
      exact hl
    · intro b u z
      cases z
    · intro b u z
      cases z
  | none =>
    refine main (scriptHp a { cls := .type "list", data := .seq vs.toArray } (ns.map V.int)) ?_ (.inl (.inr ⟨_, scriptHp_at⟩)) ?_ ?_
    · intro b
      cases z : scriptHp a { cls := .type "list", data := .seq vs.toArray } (ns.map V.int) b with
      | none => exact .inl rfl
      | some u => exact .inr ⟨_, _, by rw [(scriptHp_some z).2]⟩
    · intro b u z
      obtain ⟨rfl, rfl⟩ := scriptHp_some z
      refine ⟨ha, ?_, vs, _, rv, ha⟩
      rw [List.length_map]
      exact hl
    · intro b u z
      exact ⟨(scriptHp_some z).1, hk⟩

theorem walk_g {l : PySem.W.OpenLaw} {n k : Nat} {q : Program} {loose : List Str} {XP : (Str → Option Value) → Heap → Prop} {YP : World → Heap → Prop} {d : DefRec} {K : Params → PySem.W.Frag} {sp : PySem.W.Frag → Sp} {x : Str}
    (hn : l.most = some n) (hn2 : n ≤ sizeLine) (hdf : d.params.defaults = []) (hr : Room k callerA)
    (hY : ∀ (w : World) (h : Heap), YP w h → (K w.params).In h)
    (F : ∀ (w : World) (mg : Str → Option Value) (fa : Addr) (h : Heap), (K w.params).In h → h.Ns mainGlobals mg → mg d.name = some (.ref fa) →
      ∃ fd : FuncData, (∀ (s : Shared) (u : Value), BindsTo s fd ⟨[u], []⟩ [(x, u)]) ∧
        ∀ base : Heap, (K w.params).In base → base.Ns mainGlobals mg → FnG l.prog w (K w.params) mg base CX0 k fa fd [x] (sp (K w.params)))
    (hsp : ∀ (K : PySem.W.Frag) (H : Hp) (a : Addr) (ns : List Int), ns.length ≤ n → Only H → SqL K H a (ns.map V.int) → sp K [.ref a] H (fun v _ => v = .bl true) fun _ _ _ => False) :
    PySem.W.WalkO q loose XP YP l.row.toRowW d [] (fun f vs => PySem.call f vs) := by
  apply Att.attach_call hn hdf
  intro w s₀ s₁ mg mb fa o pm cd doc a vs ns G Y ho hd hcd hmg hobj hints hlen hg
  obtain ⟨fd, bnd, keeps⟩ := F w mg fa _ (hY w _ Y) G.T.g hmg
  exact law_callG (hY w _ Y) G.T.g G.T.b G.T.builtins G.T.nolimit hg hobj hints (Nat.le_trans hlen hn2) hr keeps bnd (fun H => hsp _ H a ns hlen)
end GR

namespace K3
open PySem PySem.Spec PyProof.Rows L2 GR
/-! ### the mathematics of spans -/
abbrev LIM : Int := 1000000000000000000
def clipI (n : Int) : Int := if (if n < LIM then n else LIM) > -LIM then (if n < LIM then n else LIM) else -LIM
theorem clipI_eq (n : Int) : clipI n = max (-LIM) (min LIM n) := by
  unfold clipI
  split <;> split at * <;> omega
def minI (a b : Int) : Int := if b < a then b else a
def maxI (a b : Int) : Int := if b > a then b else a
def lo4 (a b c d : Int) : Int := min (min (a * c) (a * d)) (min (b * c) (b * d))
def hi4 (a b c d : Int) : Int := max (max (a * c) (a * d)) (max (b * c) (b * d))
def lessS (a b c d : Int) : Int × Int := if b < c then (1, 1) else if d ≤ a then (0, 0) else (0, 1)
def sameS (a b c d : Int) : Int × Int := if b < c ∨ d < a then (0, 0) else if a = b ∧ c = d then (1, 1) else (0, 1)
/-! ### the text -/
def topS (i : Nat) : Stmt := PySem.Challenge.pw_lookdone_k03_values_lie_within_spans.main.body.getD i (.Pass ⟨0, 0, 0, 0⟩)
theorem same_upd {H : Hp} {p : Addr} {o : HO} (h : H p = none) : Same H (upd H p o) := fun b x e => by
  rw [upd_ne (ne_of_none e h)]
  exact e
section
variable {P : Program} {w : World} {K : PySem.W.Frag} {mg : Str → Option Value} {base : Heap}
abbrev s_clip : Stmt := topS 2
theorem sc_clip : FnScope ["number"] ["number"] (defScope s_clip) := ⟨rfl, rfl, rfl, by decide +kernel, rfl, by decide +kernel, by decide +kernel⟩
def sp_clip : Sp := fun vs H Q _ => ∃ n, vs = [.int n] ∧ Q (.int (clipI n)) H
theorem ok_clip {f : Addr} {fd : FuncData} {k : Nat} {tl : Tok} (F : Fun K "clip" "clip" s_clip f fd) (mLIMIT : mg "LIMIT" = some (.int LIM tl)) (mmax : mg "max" = none) (mmin : mg "min" = none) :
    FnOk P w K mg base CX0 (k + 1) f fd ["number"] sp_clip := by
  have nd := sc_clip.nd
  refine F.ok sc_clip (fun vs H Q E h => ?_) (fun cdv A outer s H vs Q E hr h => ?_)
  · obtain ⟨n, rfl, _⟩ := h
    rfl
  · obtain ⟨n, rfl, q⟩ := h
    refine ⟨_, (pss_one (ps_ret (pe_callB (call_max2 rfl) (by rfl) mmax boot_max (pa_cons (pe_un un_neg (pe_glob (v := .int LIM) rfl mLIMIT ⟨_, rfl⟩)) (pa_cons (pe_callB (call_min2 rfl) (by rfl) mmin boot_min (pa_cons (pe_glob (v := .int LIM) rfl mLIMIT ⟨_, rfl⟩) (pa_cons (pv 0) pa_nil))) pa_nil))))), ?_⟩
    refine ⟨_, rfl, .int n, rfl, _, _, rfl, _, _, rfl, ?_⟩
    exact q

/-! hull, plus, minus, less, same: of two tuples a new one -/
def spTwo (K : PySem.W.Frag) (g : Int → Int → Int → Int → Int × Int) : Sp := fun vs H Q _ => ∃ (x y : Addr) (a b c d : Int), vs = [.ref x, .ref y] ∧ SqT K H x [.int a, .int b] ∧ SqT K H y [.int c, .int d] ∧
  (-(2 ^ 64) < a ∧ a < 2 ^ 64) ∧ (-(2 ^ 64) < b ∧ b < 2 ^ 64) ∧
  ∀ H' p, Same H H' → H p = none → H' p = some (.tup [.int (g a b c d).1, .int (g a b c d).2]) → Q (.ref p) H'
theorem spTwo_len {g : Int → Int → Int → Int → Int × Int} : ∀ vs H Q E, spTwo K g vs H Q E → vs.length = 2 := by
  rintro _ _ _ _ ⟨x, y, a, b, c, d, rfl, _⟩
  rfl
theorem le2 : 2 ≤ sizeLine := by decide
theorem at0 {xs : List V} {v : V} : atI (v :: xs) 0 = some v := atI_nat (j := 0) rfl
theorem at1 {xs : List V} {v u : V} : atI (u :: v :: xs) 1 = some v := atI_nat (j := 1) rfl
theorem at2 {xs : List V} {v u t : V} : atI (t :: u :: v :: xs) 2 = some v := atI_nat (j := 2) rfl
abbrev s_hull : Stmt := topS 3
theorem sc_hull : FnScope ["one", "other"] ["one", "other"] (defScope s_hull) := ⟨rfl, rfl, rfl, by decide +kernel, rfl, by decide +kernel, by decide +kernel⟩
theorem ok_hull {f : Addr} {fd : FuncData} {k : Nat} (F : Fun K "hull" "hull" s_hull f fd) (mmax : mg "max" = none) (mmin : mg "min" = none) :
    FnOk P w K mg base CX0 (k + 1) f fd ["one", "other"] (spTwo K fun a b c d => (minI a c, maxI b d)) := by
  have nd := sc_hull.nd
  refine F.ok sc_hull spTwo_len (fun cdv A outer s H vs Q E hr h => ?_)
  obtain ⟨x, y, a, b, c, d, rfl, hx, hy, -, -, q⟩ := h
  refine ⟨_, (pss_one (ps_ret (pe_tup (pa_cons (pe_callB (call_min2 rfl) (by rfl) mmin boot_min (pa_cons (pe_ix ix_tup (pv 0) pe_int (fun _ _ => rfl)) (pa_cons (pe_ix ix_tup (pv 1) pe_int (fun _ _ => rfl)) pa_nil))) (pa_cons (pe_callB (call_max2 rfl) (by rfl) mmax boot_max (pa_cons (pe_ix ix_tup (pv 0) pe_int (fun _ _ => rfl)) (pa_cons (pe_ix ix_tup (pv 1) pe_int (fun _ _ => rfl)) pa_nil))) pa_nil))))), ?_⟩
  refine ⟨.ref x, rfl, x, _, 0, _, rfl, rfl, hx, at0, .ref y, rfl, y, _, 0, _, rfl, rfl, hy, at0, _, _, rfl, .ref x, rfl, x, _, 1, _, rfl, rfl, hx, at1, .ref y, rfl, y, _, 1, _, rfl, rfl, hy, at1, _, _, rfl, le2, fun p np => ?_⟩
  exact q _ p (same_upd np) np upd_same
abbrev s_plus : Stmt := topS 4
theorem sc_plus : FnScope ["one", "other"] ["one", "other"] (defScope s_plus) := ⟨rfl, rfl, rfl, by decide +kernel, rfl, by decide +kernel, by decide +kernel⟩
theorem ok_plus {f fclip : Addr} {fd fdclip : FuncData} {k : Nat} (F : Fun K "plus" "plus" s_plus f fd) (Gclip : FnOk P w K mg base CX0 k fclip fdclip ["number"] sp_clip) (gclip : mg "clip" = some (.ref fclip)) (Kclip : PySem.W.keepIn K (.ref fclip) = true) (bclip : Binds K fdclip ["number"] []) :
    FnOk P w K mg base CX0 (k + 1) f fd ["one", "other"] (spTwo K fun a b c d => (clipI (a + c), clipI (b + d))) := by
  have nd := sc_plus.nd
  refine F.ok sc_plus spTwo_len (fun cdv A outer s H vs Q E hr h => ?_)
  obtain ⟨x, y, a, b, c, d, rfl, hx, hy, -, -, q⟩ := h
  refine ⟨_, (pss_one (ps_ret (pe_tup (pa_cons (pe_call Gclip hr (by rfl) gclip Kclip bclip .nil pass0 (pa_cons (pe_op op_add (pe_ix ix_tup (pv 0) pe_int (fun _ _ => rfl)) (pe_ix ix_tup (pv 1) pe_int (fun _ _ => rfl))) pa_nil)) (pa_cons (pe_call Gclip hr (by rfl) gclip Kclip bclip .nil pass0 (pa_cons (pe_op op_add (pe_ix ix_tup (pv 0) pe_int (fun _ _ => rfl)) (pe_ix ix_tup (pv 1) pe_int (fun _ _ => rfl))) pa_nil)) pa_nil))))), ?_⟩
  refine ⟨.ref x, rfl, x, _, 0, _, rfl, rfl, hx, at0, .ref y, rfl, y, _, 0, _, rfl, rfl, hy, at0, _, _, rfl, rfl, _, rfl, .ref x, rfl, x, _, 1, _, rfl, rfl, hx, at1, .ref y, rfl, y, _, 1, _, rfl, rfl, hy, at1, _, _, rfl, rfl, _, rfl, le2, fun p np => ?_⟩
  exact q _ p (same_upd np) np upd_same
abbrev s_minus : Stmt := topS 5
theorem sc_minus : FnScope ["one", "other"] ["one", "other"] (defScope s_minus) := ⟨rfl, rfl, rfl, by decide +kernel, rfl, by decide +kernel, by decide +kernel⟩
theorem ok_minus {f fclip : Addr} {fd fdclip : FuncData} {k : Nat} (F : Fun K "minus" "minus" s_minus f fd) (Gclip : FnOk P w K mg base CX0 k fclip fdclip ["number"] sp_clip) (gclip : mg "clip" = some (.ref fclip)) (Kclip : PySem.W.keepIn K (.ref fclip) = true) (bclip : Binds K fdclip ["number"] []) :
    FnOk P w K mg base CX0 (k + 1) f fd ["one", "other"] (spTwo K fun a b c d => (clipI (a - d), clipI (b - c))) := by
  have nd := sc_minus.nd
  refine F.ok sc_minus spTwo_len (fun cdv A outer s H vs Q E hr h => ?_)
  obtain ⟨x, y, a, b, c, d, rfl, hx, hy, -, -, q⟩ := h
  refine ⟨_, (pss_one (ps_ret (pe_tup (pa_cons (pe_call Gclip hr (by rfl) gclip Kclip bclip .nil pass0 (pa_cons (pe_op op_sub (pe_ix ix_tup (pv 0) pe_int (fun _ _ => rfl)) (pe_ix ix_tup (pv 1) pe_int (fun _ _ => rfl))) pa_nil)) (pa_cons (pe_call Gclip hr (by rfl) gclip Kclip bclip .nil pass0 (pa_cons (pe_op op_sub (pe_ix ix_tup (pv 0) pe_int (fun _ _ => rfl)) (pe_ix ix_tup (pv 1) pe_int (fun _ _ => rfl))) pa_nil)) pa_nil))))), ?_⟩
  refine ⟨.ref x, rfl, x, _, 0, _, rfl, rfl, hx, at0, .ref y, rfl, y, _, 1, _, rfl, rfl, hy, at1, _, _, rfl, rfl, _, rfl, .ref x, rfl, x, _, 1, _, rfl, rfl, hx, at1, .ref y, rfl, y, _, 0, _, rfl, rfl, hy, at0, _, _, rfl, rfl, _, rfl, le2, fun p np => ?_⟩
  exact q _ p (same_upd np) np upd_same
abbrev s_less : Stmt := topS 7
theorem sc_less : FnScope ["one", "other"] ["one", "other"] (defScope s_less) := ⟨rfl, rfl, rfl, by decide +kernel, rfl, by decide +kernel, by decide +kernel⟩
theorem ok_less {f : Addr} {fd : FuncData} {k : Nat} (F : Fun K "less" "less" s_less f fd) :
    FnOk P w K mg base CX0 (k + 1) f fd ["one", "other"] (spTwo K lessS) := by
  have nd := sc_less.nd
  refine F.ok sc_less spTwo_len (fun cdv A outer s H vs Q E hr h => ?_)
  obtain ⟨x, y, a, b, c, d, rfl, hx, hy, -, -, q⟩ := h
  refine ⟨_, (pss_cons (ps_if (pt_cmpR op_lt (pe_ix ix_tup (pv 0) pe_int (fun _ _ => rfl)) (pe_ix ix_tup (pv 1) pe_int (fun _ _ => rfl)) (nomark _))
      (pss_one (ps_ret (pe_tup (pa_cons pe_int (pa_cons pe_int pa_nil)))))
      pss_nil)
      (pss_cons (ps_if (pt_cmpR op_ge (pe_ix ix_tup (pv 0) pe_int (fun _ _ => rfl)) (pe_ix ix_tup (pv 1) pe_int (fun _ _ => rfl)) (nomark _))
      (pss_one (ps_ret (pe_tup (pa_cons pe_int (pa_cons pe_int pa_nil)))))
      pss_nil)
      (pss_one (ps_ret (pe_tup (pa_cons pe_int (pa_cons pe_int pa_nil))))))), ?_⟩
  refine ⟨.ref x, rfl, x, _, 1, _, rfl, rfl, hx, at1, .ref y, rfl, y, _, 0, _, rfl, rfl, hy, at0, _, _, rfl, rfl, _, rfl, ite2 (fun e => ?_) (fun e => ?_)⟩
  · have e := of_decide_eq_true e
    refine ⟨le2, fun p np => q _ p (same_upd np) np ?_⟩
    rw [upd_same, lessS, if_pos e]
  · have e : ¬ b < c := fun z => e (decide_eq_true z)
    refine ⟨.ref x, rfl, x, _, 0, _, rfl, rfl, hx, at0, .ref y, rfl, y, _, 1, _, rfl, rfl, hy, at1, _, _, rfl, rfl, _, rfl, ite2 (fun e2 => ?_) (fun e2 => ?_)⟩
    · have e2 := of_decide_eq_true e2
      refine ⟨le2, fun p np => q _ p (same_upd np) np ?_⟩
      rw [upd_same, lessS, if_neg e, if_pos e2]
    · have e2 : ¬ d ≤ a := fun z => e2 (decide_eq_true z)
      refine ⟨le2, fun p np => q _ p (same_upd np) np ?_⟩
      rw [upd_same, lessS, if_neg e, if_neg e2]
theorem int_inj {a b : Int} : (V.int a = V.int b) = (a = b) := by
  apply propext
  exact ⟨fun h => V.int.inj h, fun h => congrArg _ h⟩
abbrev s_same : Stmt := topS 8
theorem sc_same : FnScope ["one", "other"] ["one", "other"] (defScope s_same) := ⟨rfl, rfl, rfl, by decide +kernel, rfl, by decide +kernel, by decide +kernel⟩
theorem ok_same {f : Addr} {fd : FuncData} {k : Nat} (F : Fun K "same" "same" s_same f fd) :
    FnOk P w K mg base CX0 (k + 1) f fd ["one", "other"] (spTwo K sameS) := by
  have nd := sc_same.nd
  refine F.ok sc_same spTwo_len (fun cdv A outer s H vs Q E hr h => ?_)
  obtain ⟨x, y, a, b, c, d, rfl, hx, hy, -, -, q⟩ := h
  refine ⟨_, (pss_cons (ps_if (PW.pt (pw_or (pt_cmpR op_lt (pe_ix ix_tup (pv 0) pe_int (fun _ _ => rfl)) (pe_ix ix_tup (pv 1) pe_int (fun _ _ => rfl)) (nomark _)) (pw_or1 (pt_cmpR op_lt (pe_ix ix_tup (pv 1) pe_int (fun _ _ => rfl)) (pe_ix ix_tup (pv 0) pe_int (fun _ _ => rfl)) (nomark _)))))
      (pss_one (ps_ret (pe_tup (pa_cons pe_int (pa_cons pe_int pa_nil)))))
      pss_nil)
      (pss_cons (ps_if (PW.pt (pw_and (pt_cmpR op_eq (pe_ix ix_tup (pv 0) pe_int (fun _ _ => rfl)) (pe_ix ix_tup (pv 0) pe_int (fun _ _ => rfl)) (nomark _)) (pw_and1 (pt_cmpR op_eq (pe_ix ix_tup (pv 1) pe_int (fun _ _ => rfl)) (pe_ix ix_tup (pv 1) pe_int (fun _ _ => rfl)) (nomark _)))))
      (pss_one (ps_ret (pe_tup (pa_cons pe_int (pa_cons pe_int pa_nil)))))
      pss_nil)
      (pss_one (ps_ret (pe_tup (pa_cons pe_int (pa_cons pe_int pa_nil))))))), ?_⟩
  have yes : ∀ r : Int × Int, sameS a b c d = r → 2 ≤ sizeLine ∧ ∀ p, H p = none → Q (.ref p) (upd H p (.tup [.int r.1, .int r.2])) := by
    rintro r rfl
    exact ⟨le2, fun p np => q _ p (same_upd np) np upd_same⟩
  refine ⟨.ref x, rfl, x, _, 1, _, rfl, rfl, hx, at1, .ref y, rfl, y, _, 0, _, rfl, rfl, hy, at0, _, _, rfl, rfl, _, rfl, ite2 (fun e => ?_) (fun e => ?_)⟩
  · have e := of_decide_eq_true e
    refine iteT (yes (0, 0) ?_)
    rw [sameS, if_pos (.inl e)]
  have e : ¬ b < c := fun z => e (decide_eq_true z)
  refine ⟨.ref y, rfl, y, _, 1, _, rfl, rfl, hy, at1, .ref x, rfl, x, _, 0, _, rfl, rfl, hx, at0, _, _, rfl, rfl, _, rfl, ite2 (fun e2 => ?_) (fun e2 => ?_)⟩
  · have e2 := of_decide_eq_true e2
    refine yes (0, 0) ?_
    rw [sameS, if_pos (.inr e2)]
  have e2 : ¬ d < a := fun z => e2 (decide_eq_true z)
  have e3 : ¬ (b < c ∨ d < a) := fun z => z.elim e e2
  refine ⟨.ref x, rfl, x, _, 0, _, rfl, rfl, hx, at0, .ref x, rfl, x, _, 1, _, rfl, rfl, hx, at1, rfl, _, rfl, ite2 (fun e4 => ?_) (fun e4 => ?_)⟩
  · have e4 := V.int.inj (of_decide_eq_true e4)
    refine ⟨.ref y, rfl, y, _, 0, _, rfl, rfl, hy, at0, .ref y, rfl, y, _, 1, _, rfl, rfl, hy, at1, rfl, _, rfl, ite2 (fun e5 => ?_) (fun e5 => ?_)⟩
    · have e5 := V.int.inj (of_decide_eq_true e5)
      refine yes (1, 1) ?_
      rw [sameS, if_neg e3, if_pos ⟨e4, e5⟩]
    · refine yes (0, 1) ?_
      rw [sameS, if_neg e3, if_neg fun z => e5 (decide_eq_true (congrArg V.int z.2))]
  · refine iteF (yes (0, 1) ?_)
    rw [sameS, if_neg e3, if_neg fun z => e4 (decide_eq_true (congrArg V.int z.1))]
abbrev s_times : Stmt := topS 6
abbrev N_times : List Str := ["one", "other", "products", "factor", "by"]
theorem sc_times : FnScope N_times ["one", "other"] (defScope s_times) := ⟨rfl, rfl, rfl, by decide +kernel, rfl, by decide +kernel, by decide +kernel⟩
theorem ok_times {f fclip : Addr} {fd fdclip : FuncData} {k : Nat} (F : Fun K "times" "times" s_times f fd) (Gclip : FnOk P w K mg base CX0 k fclip fdclip ["number"] sp_clip) (gclip : mg "clip" = some (.ref fclip)) (Kclip : PySem.W.keepIn K (.ref fclip) = true) (bclip : Binds K fdclip ["number"] [])
    (mmax : mg "max" = none) (mmin : mg "min" = none) :
    FnOk P w K mg base CX0 (k + 1) f fd ["one", "other"] (spTwo K fun a b c d => (clipI (lo4 a b c d), clipI (hi4 a b c d))) := by
  have nd := sc_times.nd
  refine F.ok sc_times spTwo_len (fun cdv A outer s H vs Q E hr h => ?_)
  obtain ⟨x, y, a, b, c, d, rfl, hx, hy, ha, hb, q⟩ := h
  refine ⟨_, (pss_cons (ps_setLc2 (i := 2) (own := [("factor", 3), ("by", 4)]) (vs1 := [4]) (wi1 := iTup K (tVar 1)) rfl nd rfl rfl (sw_true rfl rfl rfl (by decide +kernel)) (pi_tup (pv 0)) (blkOk_by (N := N_times) (sc := defScope s_times) (by decide +kernel)) (by decide)
        (fun _ _ _ _ _ => pg_name (i := 3) nd rfl (Or.inl rfl)) (fun _ _ _ _ _ => pts_nil) (fun _ _ _ _ _ => pi_tup (pv 1)) (fun _ _ _ _ _ => pg_name (i := 4) nd rfl (Or.inl rfl)) (fun _ _ _ _ _ => pts_nil) (fun _ _ _ _ _ => pe_op op_mul (pv 3) (pv 4)))
      (pss_one (ps_ret (pe_tup (pa_cons (pe_call Gclip hr (by rfl) gclip Kclip bclip .nil pass0 (pa_cons (pe_callB (cr_min rfl) (by rfl) mmin boot_min (pa_cons (pv 2) pa_nil)) pa_nil)) (pa_cons (pe_call Gclip hr (by rfl) gclip Kclip bclip .nil pass0 (pa_cons (pe_callB (cr_max rfl) (by rfl) mmax boot_max (pa_cons (pv 2) pa_nil)) pa_nil)) pa_nil)))))), ?_⟩
  refine ⟨.ref x, rfl, x, rfl, ⟨_, hx⟩, fun D nD => ?_⟩
  have fin : ∀ H', Same H H' → H' D = some (.lst ([a * c, a * d, b * c, b * d].map V.int)) → ∀ (m1 m2 : Int), m1 = lo4 a b c d → m2 = hi4 a b c d →
      2 ≤ sizeLine ∧ ∀ p, H' p = none → Q (.ref p) (upd H' p (.tup [.int (clipI m1), .int (clipI m2)])) := by
    rintro H' sm hD m1 m2 rfl rfl
    exact ⟨le2, fun p np => q _ p (sm.trans (same_upd np)) (sm.free np) upd_same⟩
  refine ⟨fun i m H' => Same H H' ∧ H' D = some (.lst (([a * c, a * d, b * c, b * d].take (2 * i)).map V.int)) ∧ i + m = 2, ⟨2, same_upd nD, by rw [upd_same]; rfl, rfl⟩, ?_⟩
  rintro i m H' ⟨sm, hD, him⟩
  by_cases h2 : i = 2
  · subst h2
    refine .inl ⟨⟨_, hx.elim (fun z => ?_) .inr, Nat.le_refl _⟩, ?_⟩
    · exact .inl (z.elim (fun z => .inl (sm _ _ z)) fun ⟨o, z⟩ => .inr ⟨o, sm _ _ z⟩)
    · refine ⟨.ref D, rfl, D, _, rfl, .inl (.inl hD), Nat.zero_lt_succ _, fun m1 mem1 le1 => ?_⟩
      refine ⟨m1, rfl, .ref D, rfl, D, _, rfl, .inl (.inl hD), Nat.zero_lt_succ _, fun m2 mem2 le2' => ?_⟩
      refine ⟨m2, rfl, fin H' sm hD m1 m2 ?_ ?_⟩
      · have r1 := le1 (a * c) (by simp); have r2 := le1 (a * d) (by simp); have r3 := le1 (b * c) (by simp); have r4 := le1 (b * d) (by simp)
        have mem : m1 = a * c ∨ m1 = a * d ∨ m1 = b * c ∨ m1 = b * d := by simpa using mem1
        unfold lo4
        omega
      · have r1 := le2' (a * c) (by simp); have r2 := le2' (a * d) (by simp); have r3 := le2' (b * c) (by simp); have r4 := le2' (b * d) (by simp)
        have mem : m2 = a * c ∨ m2 = a * d ∨ m2 = b * c ∨ m2 = b * d := by simpa using mem2
        unfold hi4
        omega
  · have lift : ∀ {z : Addr} {us : List V} {H2 : Hp}, SqT K H z us → Same H H2 → SqT K H2 z us := by
      intro z us H2 hz s2
      rcases hz with hz | hz
      · exact .inl (hz.elim (fun e => .inl (s2 _ _ e)) fun ⟨o, e⟩ => .inr ⟨o, s2 _ _ e⟩)
      · exact .inr hz
    obtain ⟨u, hu, hub⟩ : ∃ u, ([V.int a, V.int b] : List V)[i]? = some (.int u) ∧ (-(2 ^ 64) < u ∧ u < 2 ^ 64) ∧ ∀ j v, ([V.int c, V.int d] : List V)[j]? = some (.int v) → ([a * c, a * d, b * c, b * d] : List Int)[2 * i + j]? = some (u * v) := by
      have : i = 0 ∨ i = 1 := by omega
      rcases this with rfl | rfl
      · refine ⟨a, rfl, ha, fun j v e => ?_⟩
        match j, e with
        | 0, e => cases e; rfl
        | 1, e => cases e; rfl
      · refine ⟨b, rfl, hb, fun j v e => ?_⟩
        match j, e with
        | 0, e => cases e; rfl
        | 1, e => cases e; rfl
    obtain ⟨hub, hprod⟩ := hub
    refine .inr ⟨⟨_, _, lift hx sm, hu⟩, fun H2 => Same H H2 ∧ H2 D = some (.lst (([a * c, a * d, b * c, b * d].take (2 * (i + 1))).map V.int)), ?_, ?_⟩
    · rintro H2 ⟨s2, h2⟩
      exact ⟨m - 1, by omega, s2, h2, by omega⟩
    · rintro v H2 ⟨rfl, fv⟩
      cases (Option.some.inj ((fv _ (lift hx sm)).symm.trans hu))
      refine ⟨rfl, yes_then ?_⟩
      refine ⟨.ref y, rfl, y, rfl, ⟨_, lift hy sm⟩, ?_⟩
      refine ⟨fun j n H3 => Same H H3 ∧ H3 D = some (.lst (([a * c, a * d, b * c, b * d].take (2 * i + j)).map V.int)) ∧ j + n = 2, ⟨2, sm, hD, rfl⟩, ?_⟩
      rintro j n H3 ⟨s3, h3, hjn⟩
      by_cases hj : j = 2
      · subst hj
        exact .inl ⟨⟨_, lift hy s3, Nat.le_refl _⟩, s3, h3⟩
      · obtain ⟨v, hv⟩ : ∃ v, ([V.int c, V.int d] : List V)[j]? = some (.int v) := by
          have : j = 0 ∨ j = 1 := by omega
          rcases this with rfl | rfl
          · exact ⟨c, rfl⟩
          · exact ⟨d, rfl⟩
        have hp := hprod j v hv
        refine .inr ⟨⟨_, _, lift hy s3, hv⟩, fun H4 => Same H H4 ∧ H4 D = some (.lst (([a * c, a * d, b * c, b * d].take (2 * i + (j + 1))).map V.int)), ?_, ?_⟩
        · rintro H4 ⟨s4, h4⟩
          exact ⟨n - 1, by omega, s4, h4, by omega⟩
        · rintro x4 H4 ⟨rfl, fv4⟩
          cases (Option.some.inj ((fv4 _ (lift hy s3)).symm.trans hv))
          refine ⟨rfl, yes_then ?_⟩
          refine ⟨.int u, rfl, .int v, rfl, u, v, rfl, rfl, .inl hub, _, h3, ?_, ?_, ?_⟩
          · rw [List.length_map, List.length_take]
            exact Nat.lt_of_le_of_lt (Nat.min_le_right _ _) (small1000 (show 4 ≤ 1000 by decide))
          · intro b2 o e
            have nb : b2 ≠ D := by
              rintro rfl
              rw [nD] at e
              cases e
            rw [upd_ne nb]
            exact s3 _ _ e
          · rw [upd_same, ← Nat.add_assoc, List.take_add_one, hp, List.map_append]
            rfl
end
end K3

namespace K3
open PySem PySem.Spec PyProof.Rows L2 GR
/-! ### the law's deck -/
/-- the deck at d: the cells at c, a number, the count of draws, at most N -/
def Deck (H : Hp) (d c : Addr) (N : Int) : Prop := ∃ (cells : List Int) (m n : Int), H d = some (.lst [.ref c, .int m, .int n]) ∧ H c = some (.lst (cells.map V.int)) ∧ cells.length ≤ 63 ∧ 0 ≤ n ∧ n ≤ N
theorem Deck.ne {H : Hp} {d c : Addr} {N : Int} (h : Deck H d c N) : c ≠ d := by
  obtain ⟨cells, m, n, h1, h2, _⟩ := h
  rintro rfl
  rw [h1] at h2
  have e := HO.lst.inj (Option.some.inj h2)
  cases cells with
  | nil => cases e
  | cons x r =>
    have := (List.cons.inj e).1
    cases this
theorem Deck.mono {H : Hp} {d c : Addr} {N M : Int} (h : Deck H d c N) (hm : N ≤ M) : Deck H d c M := by
  obtain ⟨cells, m, n, h1, h2, h3, h4, h5⟩ := h
  exact ⟨cells, m, n, h1, h2, h3, h4, Int.le_trans h5 hm⟩
/-- all but the deck is as it was -/
def Keep (d c : Addr) (H H' : Hp) : Prop := ∀ b o, b ≠ d → b ≠ c → H b = some o → H' b = some o
theorem Keep.refl {d c : Addr} {H : Hp} : Keep d c H H := fun _ _ _ _ e => e
theorem Keep.trans {d c : Addr} {H H1 H2 : Hp} (a : Keep d c H H1) (b : Keep d c H1 H2) : Keep d c H H2 := fun x o h1 h2 e => b x o h1 h2 (a x o h1 h2 e)
theorem Keep.of {d c : Addr} {H H' : Hp} (s : Same H H') : Keep d c H H' := fun b o _ _ e => s b o e
theorem Deck.same {H H' : Hp} {d c : Addr} {N : Int} (h : Deck H d c N) (s : Same H H') : Deck H' d c N := by
  obtain ⟨cells, m, n, h1, h2, h3⟩ := h
  exact ⟨cells, m, n, s _ _ h1, s _ _ h2, h3⟩
/-- a tuple, a list that is not the deck's stays -/
theorem Keep.tup {d c p : Addr} {H H' : Hp} {N : Int} {xs : List V} (s : Keep d c H H') (D : Deck H d c N) (h : H p = some (.tup xs)) : H' p = some (.tup xs) := by
  obtain ⟨cells, m, n, h1, h2, _⟩ := D
  exact s p _ (ne_of h h1 (fun z => by cases z)) (ne_of h h2 (fun z => by cases z)) h
theorem dp_ints {K : PySem.W.Frag} {H : Hp} : ∀ ns : List Int, DpAll K H (ns.map V.int) (ns.map PyData.int)
  | [] => .nil
  | n :: ns => .cons (.int n) (dp_ints ns)
theorem lay_ints : ∀ ns : List Int, PyData.canLayAll0 (ns.map PyData.int) = true
  | [] => by simp only [List.map_nil, PyData.canLayAll0]
  | n :: ns => by simp only [List.map_cons, PyData.canLayAll0, PyData.canLay0, lay_ints ns, Bool.and_self]
theorem depth_ints : ∀ ns : List Int, PyData.depthAll (ns.map PyData.int) ≤ 1
  | [] => by simp only [List.map_nil, PyData.depthAll]; omega
  | n :: ns => by
    have := depth_ints ns
    simp only [List.map_cons, PyData.depthAll, PyData.depth]
    omega
theorem shaped_ints (ns : List Int) : SeqAt.shaped (.list (ns.map PyData.int)) = true := by
  have := depth_ints ns
  unfold SeqAt.shaped
  rw [Bool.and_eq_true]
  refine ⟨by simp only [PyData.canLay0, lay_ints], decide_eq_true ?_⟩
  simp only [PyData.depth]
  omega
theorem neq_nil : ∀ ns : List Int, (!PyData.eqv (.list (ns.map PyData.int)) (.list [])) = !ns.isEmpty
  | [] => by simp only [List.map_nil, PyData.eqv, PyData.eqvAll, List.isEmpty_nil]
  | n :: ns => by simp only [List.map_cons, PyData.eqv, PyData.eqvAll, List.isEmpty_cons]

def num1 (z n : Int) : Int := (z % 2147483629 + 8231 * (n + 1) * (n + 1) + 43) * 48271 % 2147483647
theorem num1_rng (z n : Int) : -(2 ^ 64) < num1 z n ∧ num1 z n < 2 ^ 64 := by
  unfold num1
  omega
def num2 (x n : Int) : Int := (x * x + 69621 * x + (n + 1)) % 2147483587
theorem num2_rng (x n : Int) : -(2 ^ 64) < num2 x n ∧ num2 x n < 2 ^ 64 := by
  unfold num2
  omega

section
variable {P : Program} {w : World} {K : PySem.W.Frag} {mg : Str → Option Value} {base : Heap}
abbrev s_law_draw : Stmt := topS 11
theorem sc_law_draw : FnScope ["_law_deck_here", "_law_most", "_law_cell", "_law_number_here"] ["_law_deck_here", "_law_most"] (defScope s_law_draw) := ⟨rfl, rfl, rfl, by decide +kernel, rfl, by decide +kernel, by decide +kernel⟩
def sp_draw : Sp := fun vs H Q _ => ∃ (d c : Addr) (N most : Int), vs = [.ref d, .int most] ∧ Deck H d c N ∧ N < 2 ^ 60 ∧ 0 < most ∧ most < 2 ^ 100 ∧
  ∀ H' r, Keep d c H H' → Deck H' d c (N + 1) → 0 ≤ r → r < most → Q (.int r) H'
theorem ok_draw {f : Addr} {fd : FuncData} {k : Nat} (F : Fun K "_law_draw" "_law_draw" s_law_draw f fd) :
    FnOk P w K mg base CX0 (k + 1) f fd ["_law_deck_here", "_law_most"] sp_draw := by
  have nd := sc_law_draw.nd
  refine F.ok sc_law_draw (fun vs H Q E h => ?_) (fun cdv A outer s H vs Q E hr h => ?_)
  · obtain ⟨d, c, N, most, rfl, _⟩ := h
    rfl
  obtain ⟨d, c, N, most, rfl, D, hN, hm0, hm1, q⟩ := h
  have hcd := D.ne
  obtain ⟨cells, m, n, hd, hc, hlen, hn0, hn1⟩ := D
  refine ⟨_, (pss_cons (ps_asg (pe_op op_add (pe_ix ix_list (pv 0) pe_int (fun _ _ => rfl)) pe_int) (pg_sub (pv 0) pe_int set_list))
      (pss_cons (ps_set (i := 2) nd rfl (.inl rfl) (pe_ix ix_list (pv 0) pe_int (fun _ _ => rfl)))
      (Evl.pss_cut (ps_if (pt_cmpR (op_neD hr.units) (pe_ix ix_list (pv 0) pe_int (fun _ _ => rfl)) (pe_lst pa_nil) (nomark _))
      (pss_cons (ps_set (i := 2) nd rfl (.inl rfl) (pe_bm0 PySem.F.plainAttrs_list PySem.F.slot_list_pop PySem.F.type_list_pop mt_pop (pe_ix ix_list (pv 0) pe_int (fun _ _ => rfl))))
        (pss_one (ps_if (pt_cmpR op_ge (pv 2) (pe_op op_pow pe_int pe_int) (nomark _))
        (pss_cons (ps_expr (pe_bm PySem.F.plainAttrs_list PySem.F.slot_list_append PySem.F.type_list_append mt_append (pe_ix ix_list (pv 0) pe_int (fun _ _ => rfl)) (pa_cons (pe_op op_fdivW (pv 2) (pv 1)) pa_nil)))
          (pss_one (ps_ret (pe_op op_mod (pv 2) (pv 1)))))
        pss_nil)))
      pss_nil)
      (pss_cons (ps_set (i := 3) nd rfl (.inl rfl) (pe_op op_mod (pe_op op_mul (pe_op op_add (pe_op op_add (pe_op op_mod (pv 2) pe_int) (pe_op op_mul (pe_op op_mul pe_int (pe_ix ix_list (pv 0) pe_int (fun _ _ => rfl))) (pe_ix ix_list (pv 0) pe_int (fun _ _ => rfl)))) pe_int) pe_int) pe_int))
      (pss_cons (ps_set (i := 3) nd rfl (.inl rfl) (pe_op op_mod (pe_op op_add (pe_op op_add (pe_op op_mul (pv 3) (pv 3)) (pe_op op_mul pe_int (pv 3))) (pe_ix ix_list (pv 0) pe_int (fun _ _ => rfl))) pe_int))
      (pss_one (ps_ret (pe_op op_mod (pe_op op_fdivW (pe_op op_mod (pe_op op_mul (pv 3) (pe_op op_add (pe_op op_fdivW (pv 3) pe_int) pe_int)) pe_int) pe_int) (pv 1))))))))), ?_⟩
  refine ⟨.ref d, rfl, d, _, 2, _, rfl, rfl, .inl (.inl hd), at2, _, _, rfl, rfl, .ref d, rfl, d, _, 2, 2, rfl, rfl, hd, rfl, ?_⟩
  -- the deck with one draw more
  have h1d : upd H d (.lst [.ref c, .int m, .int (n + 1)]) d = some (.lst [.ref c, .int m, .int (n + 1)]) := upd_same
  have h1c : upd H d (.lst [.ref c, .int m, .int (n + 1)]) c = some (.lst (cells.map V.int)) := by
    rw [upd_ne hcd]
    exact hc
  have k1 : Keep d c H (upd H d (.lst [.ref c, .int m, .int (n + 1)])) := fun b o nb _ e => by
    rw [upd_ne nb]
    exact e
  refine ⟨.ref d, rfl, d, _, 1, _, rfl, rfl, .inl (.inl h1d), at1, ?_⟩
  have wd : CDivW 0 most := wide_div hm0 (b := 100) (by omega) (by decide) (by decide)
  refine ⟨fun σ' H' => ∃ (z : Int) (cells' : List Int), σ' = [some (.ref d), some (.int most), some (.int z), none] ∧ Keep d c H H' ∧ H' d = some (.lst [.ref c, .int m, .int (n + 1)]) ∧ H' c = some (.lst (cells'.map V.int)) ∧ cells'.length ≤ 63, ?_, ?_⟩
  · refine ⟨.ref d, rfl, d, _, 0, _, rfl, rfl, .inl (.inl h1d), at0, Nat.zero_le _, fun e ne => ?_⟩
    have s2 : Same (upd H d (.lst [.ref c, .int m, .int (n + 1)])) (upd (upd H d (.lst [.ref c, .int m, .int (n + 1)])) e (.lst [])) := same_upd ne
    have h2d := s2 _ _ h1d
    have h2c := s2 _ _ h1c
    have k2 := k1.trans (Keep.of s2)
    refine ⟨_, _, .lst (.inl (.inl h2c)) (dp_ints cells), .lst (.inl (.inl upd_same)) .nil, shaped_ints cells, shaped_ints [], _, rfl, ?_⟩
    rw [neq_nil]
    cases hcs : cells with
    | nil => exact iteF ⟨m, cells, rfl, k2, h2d, h2c, hlen⟩
    | cons x0 r0 =>
      refine iteT ?_
      have hne : cells ≠ [] := by
        rw [hcs]
        exact List.cons_ne_nil _ _
      have hlast : (cells.map V.int)[(cells.map V.int).length - 1]? = some (.int (cells.getLast hne)) := by
        rw [List.length_map, List.getElem?_map, ← List.getLast?_eq_getElem?, List.getLast?_eq_getLast hne]
        rfl
      refine ⟨.ref d, rfl, d, _, 0, _, rfl, rfl, .inl (.inl h2d), at0, .inl ⟨rfl, _, .inl (.inl h2c)⟩, c, _, _, rfl, rfl, h2c, hlast, ?_⟩
      have hdrop : (cells.map V.int).dropLast = cells.dropLast.map V.int := by rw [List.map_dropLast]
      rw [hdrop]
      have h3d : upd (upd (upd H d (.lst [.ref c, .int m, .int (n + 1)])) e (.lst [])) c (.lst (cells.dropLast.map V.int)) d = some (.lst [.ref c, .int m, .int (n + 1)]) := by
        rw [upd_ne hcd.symm]
        exact h2d
      have h3c : upd (upd (upd H d (.lst [.ref c, .int m, .int (n + 1)])) e (.lst [])) c (.lst (cells.dropLast.map V.int)) c = some (.lst (cells.dropLast.map V.int)) := upd_same
      have k3 : Keep d c H (upd (upd (upd H d (.lst [.ref c, .int m, .int (n + 1)])) e (.lst [])) c (.lst (cells.dropLast.map V.int))) := fun b o n1 n2 e1 => by
        rw [upd_ne n2]
        exact k2 b o n1 n2 e1
      have l3 : cells.dropLast.length + 1 ≤ 63 := by
        rw [List.length_dropLast, hcs, List.length_cons]
        rw [hcs, List.length_cons] at hlen
        omega
      generalize cells.getLast hne = z
      refine ⟨.int z, rfl, _, _, rfl, rfl, ⟨by decide, by decide, by decide⟩, _, _, rfl, rfl, _, rfl, ite2 (fun e5 => ?_) (fun e5 => ?_)⟩
      · refine ⟨.ref d, rfl, d, _, 0, _, rfl, rfl, .inl (.inl h3d), at0, .inl ⟨rfl, _, .inl (.inl h3c)⟩, .int z, rfl, .int most, rfl, z, most, rfl, rfl, wd, c, _, _, rfl, rfl, h3c, ?_, ?_⟩
        · rw [List.length_map]
          exact small1000 (by omega)
        · refine ⟨.int z, rfl, .int most, rfl, z, most, rfl, rfl, hm0, ?_⟩
          refine q _ _ ?_ ?_ (Int.emod_nonneg _ (by omega)) (Int.emod_lt_of_pos _ hm0)
          · intro b o n1 n2 e1
            rw [upd_ne n2]
            exact k3 b o n1 n2 e1
          · refine ⟨cells.dropLast ++ [z / most], m, n + 1, ?_, ?_, ?_, by omega, by omega⟩
            · rw [upd_ne hcd.symm]
              exact h3d
            · rw [upd_same, List.map_append]
              rfl
            · rw [List.length_append, List.length_singleton]
              exact l3
      · exact ⟨z, cells.dropLast, rfl, k3, h3d, h3c, by omega⟩
  · rintro σ' H' ⟨z, cells', rfl, kk, h5d, h5c, hl5⟩
    have hn2 : -(2 ^ 64) < n + 1 ∧ n + 1 < 2 ^ 64 := by omega
    refine ⟨.int z, rfl, z, 2147483629, rfl, rfl, (show (0 : Int) < 2147483629 by decide), .ref d, rfl, d, _, 2, _, rfl, rfl, .inl (.inl h5d), at2, 8231, n + 1, rfl, rfl, .inl ⟨by decide, by decide⟩, .ref d, rfl, d, _, 2, _, rfl, rfl, .inl (.inl h5d), at2, 8231 * (n + 1), n + 1, rfl, rfl, .inr hn2, _, _, rfl, rfl, _, _, rfl, rfl, _, 48271, rfl, rfl, .inr ⟨by decide, by decide⟩, _, 2147483647, rfl, rfl, (show (0 : Int) < 2147483647 by decide), ?_⟩
    have b1 := num1_rng z n
    refine ⟨.int (num1 z n), rfl, .int (num1 z n), rfl, num1 z n, num1 z n, rfl, rfl, .inl b1, .int (num1 z n), rfl, 69621, num1 z n, rfl, rfl, .inr b1, _, _, rfl, rfl, .ref d, rfl, d, _, 2, _, rfl, rfl, .inl (.inl h5d), at2, _, _, rfl, rfl, _, 2147483587, rfl, rfl, (show (0 : Int) < 2147483587 by decide), ?_⟩
    have b2 := num2_rng (num1 z n) n
    refine ⟨.int (num2 (num1 z n) n), rfl, .int (num2 (num1 z n) n), rfl, num2 (num1 z n) n, 5, rfl, rfl, ⟨by decide, by decide⟩, _, _, rfl, rfl, num2 (num1 z n) n, _, rfl, rfl, .inl b2, _, 2147483579, rfl, rfl, (show (0 : Int) < 2147483579 by decide), _, 64, rfl, rfl, ⟨by decide, by decide⟩, .int most, rfl, _, most, rfl, rfl, hm0, ?_⟩
    exact q _ _ kk ⟨cells', m, n + 1, h5d, h5c, hl5, by omega, by omega⟩ (Int.emod_nonneg _ (by omega)) (Int.emod_lt_of_pos _ hm0)
end
end K3

namespace K3
open PySem PySem.Spec PyProof.Rows L2 GR
theorem Keep.seq {K : PySem.W.Frag} {d c a : Addr} {H H' : Hp} {xs : List V} (s : Keep d c H H') (h : SqL K H a xs) (h1 : a ≠ d) (h2 : a ≠ c) : SqL K H' a xs := by
  rcases h with (h | ⟨o, h⟩) | h
  · exact .inl (.inl (s _ _ h1 h2 h))
  · exact .inl (.inr ⟨o, s _ _ h1 h2 h⟩)
  · exact .inr h
theorem cut63 (ns : List Int) : ∃ ms : List Int, cutV (ns.map V.int) none (some 63) = ms.map V.int ∧ ms.length ≤ 63 := by
  refine ⟨ns.take (min 63 ns.length), ?_, ?_⟩
  · unfold cutV
    rw [HT.sIx_none, show HT.sIx (ns.map V.int).length (ns.map V.int).length (some 63) = min 63 (ns.map V.int).length from HT.sIx_nat _ _ 63, List.drop_zero, List.map_take, List.length_map, Nat.sub_zero]
  · rw [List.length_take]
    omega
theorem small_le {n : Nat} (h : n ≤ 1000) : n ≤ sizeLine := Nat.le_of_lt (small1000 h)
section
variable {P : Program} {w : World} {K : PySem.W.Frag} {mg : Str → Option Value} {base : Heap}
abbrev s_law_deck : Stmt := topS 10
theorem sc_law_deck : FnScope ["_law_script", "_law_cells"] ["_law_script"] (defScope s_law_deck) := ⟨rfl, rfl, rfl, by decide +kernel, rfl, by decide +kernel, by decide +kernel⟩
def sp_deck (K : PySem.W.Frag) : Sp := fun vs H Q _ => ∃ (a : Addr) (ns : List Int), vs = [.ref a] ∧ SqL K H a (ns.map V.int) ∧ ∀ H' d c, Same H H' → H d = none → Deck H' d c 0 → Q (.ref d) H'
theorem ok_deck {f : Addr} {fd : FuncData} {k : Nat} (F : Fun K "_law_deck" "_law_deck" s_law_deck f fd) (mlist : mg "list" = none) (msum : mg "sum" = none) (mlen : mg "len" = none) :
    FnOk P w K mg base CX0 (k + 1) f fd ["_law_script"] (sp_deck K) := by
  have nd := sc_law_deck.nd
  refine F.ok sc_law_deck (fun vs H Q E h => ?_) (fun cdv A outer s H vs Q E hr h => ?_)
  · obtain ⟨a, ns, rfl, _⟩ := h
    rfl
  obtain ⟨a, ns, rfl, hS, q⟩ := h
  obtain ⟨ms, hms, hl⟩ := cut63 ns
  refine ⟨_, (pss_cons (ps_set (i := 1) nd rfl (.inl rfl) (pe_callTy call_list_of (by rfl) mlist boot_list (pa_cons (pe_slice sl_list (pv 0) po_none (po_some pe_int)) pa_nil)))
      (pss_one (ps_ret (pe_lst (pa_cons (pe_revL (pv 1)) (pa_cons (pe_op op_add (pe_op op_mod (pe_callB (cr_sum rfl) (by rfl) msum boot_sum (pa_cons (pv 1) pa_nil)) pe_int) (pe_op op_mul pe_int (pe_callB call_len_seq (by rfl) mlen PySem.boot_len (pa_cons (pv 1) pa_nil)))) (pa_cons pe_int pa_nil))))))), ?_⟩
  refine ⟨.ref a, rfl, 63, rfl, a, _, rfl, hS, fun p np => ?_⟩
  rw [hms]
  have s1 : Same H (upd H p (.lst (ms.map V.int))) := same_upd np
  refine ⟨p, _, rfl, .inl (.inl (.inl upd_same)), fun l nl => ?_⟩
  have s2 := same_upd (o := .lst (ms.map V.int)) nl
  have hl2 : SqL K (upd (upd H p (.lst (ms.map V.int))) l (.lst (ms.map V.int))) l (ms.map V.int) := .inl (.inl upd_same)
  refine ⟨.ref l, rfl, l, _, rfl, hl2, fun c nc => ?_⟩
  have s3 := same_upd (o := .lst (ms.map V.int).reverse) nc
  refine ⟨.ref l, rfl, l, ms, rfl, s3.seq hl2, _, 2147483629, rfl, rfl, (show (0 : Int) < 2147483629 by decide), .ref l, rfl, l, _, rfl, .inl (s3.seq hl2), 39373, _, rfl, rfl, .inl ⟨by decide, by decide⟩, _, _, rfl, rfl, small_le (show 3 ≤ 1000 by decide), fun d nd' => ?_⟩
  refine q _ d c ((s1.trans s2).trans (s3.trans (same_upd nd'))) ?_ ?_
  · exact s1.free (s2.free (s3.free nd'))
  · refine ⟨ms.reverse, _, 0, upd_same, ?_, ?_, Int.le_refl 0, Int.le_refl 0⟩
    · have : c ≠ d := ne_of_none (show upd _ c _ c = _ from upd_same) nd'
      rw [upd_ne this, upd_same, List.map_reverse]
    · rw [List.length_reverse]
      exact hl
abbrev s_law_pick : Stmt := topS 12
theorem sc_law_pick : FnScope ["_law_deck_here", "_law_some"] ["_law_deck_here", "_law_some"] (defScope s_law_pick) := ⟨rfl, rfl, rfl, by decide +kernel, rfl, by decide +kernel, by decide +kernel⟩
def sp_pick (K : PySem.W.Frag) : Sp := fun vs H Q _ => ∃ (d c a : Addr) (N : Int) (xs : List V), vs = [.ref d, .ref a] ∧ Deck H d c N ∧ N < 2 ^ 60 ∧ SqL K H a xs ∧ xs ≠ [] ∧ xs.length ≤ 1000 ∧ a ≠ d ∧ a ≠ c ∧
  ∀ H' v, Keep d c H H' → Deck H' d c (N + 1) → v ∈ xs → Q v H'
theorem ok_pick {f f_law_draw : Addr} {fd fd_law_draw : FuncData} {k : Nat} (F : Fun K "_law_pick" "_law_pick" s_law_pick f fd) (G_law_draw : FnOk P w K mg base CX0 k f_law_draw fd_law_draw ["_law_deck_here", "_law_most"] sp_draw)
    (g_law_draw : mg "_law_draw" = some (.ref f_law_draw)) (K_law_draw : PySem.W.keepIn K (.ref f_law_draw) = true) (b_law_draw : Binds K fd_law_draw ["_law_deck_here", "_law_most"] []) (mlen : mg "len" = none) :
    FnOk P w K mg base CX0 (k + 1) f fd ["_law_deck_here", "_law_some"] (sp_pick K) := by
  have nd := sc_law_pick.nd
  refine F.ok sc_law_pick (fun vs H Q E h => ?_) (fun cdv A outer s H vs Q E hr h => ?_)
  · obtain ⟨d, c, a, N, xs, rfl, _⟩ := h
    rfl
  obtain ⟨d, c, a, N, xs, rfl, D, hN, hS, hne, hlen, had, hac, q⟩ := h
  refine ⟨_, (pss_one (ps_ret (pe_ix ix_list (pv 1) (pe_call G_law_draw hr (by rfl) g_law_draw K_law_draw b_law_draw .nil pass0 (pa_cons (pv 0) (pa_cons (pe_callB call_len_seq (by rfl) mlen PySem.boot_len (pa_cons (pv 1) pa_nil)) pa_nil))) (fun _ _ => rfl)))), ?_⟩
  have hpos : 0 < xs.length := List.length_pos_iff.mpr hne
  refine ⟨.ref a, rfl, .ref d, rfl, .ref a, rfl, a, xs, rfl, .inl hS, d, c, N, (xs.length : Int), rfl, D, hN, by omega, by omega, fun H' r kp D' r0 r1 => ?_⟩
  obtain ⟨j, rfl⟩ := Int.eq_ofNat_of_zero_le r0
  have hj : j < xs.length := by omega
  exact ⟨a, xs, j, xs[j], rfl, rfl, kp.seq hS had hac, atI_nat (List.getElem?_eq_getElem hj), q H' _ kp D' (List.getElem_mem hj)⟩
end
end K3

namespace K3
open PySem PySem.Spec PyProof.Rows L2 GR
theorem Deck.new {H : Hp} {d c a : Addr} {N : Int} (D : Deck H d c N) (na : H a = none) : a ≠ d ∧ a ≠ c := by
  obtain ⟨cells, m, n, h1, h2, _⟩ := D
  exact ⟨(ne_of_none h1 na).symm, (ne_of_none h2 na).symm⟩
abbrev BIG : Int := 1000000000000000000000000000000000000000
section
variable {P : Program} {w : World} {K : PySem.W.Frag} {mg : Str → Option Value} {base : Heap}
abbrev s_law_number : Stmt := topS 13
theorem sc_law_number : FnScope ["_law_deck_here", "_law_far", "_law_some"] ["_law_deck_here"] (defScope s_law_number) := ⟨rfl, rfl, rfl, by decide +kernel, rfl, by decide +kernel, by decide +kernel⟩
/-- an int within B is drawn by n draws -/
def sp_int (n B : Int) : Sp := fun vs H Q _ => ∃ (d c : Addr) (N : Int), vs = [.ref d] ∧ Deck H d c N ∧ N < 2 ^ 50 ∧ ∀ H' e, Keep d c H H' → Deck H' d c (N + n) → -B ≤ e → e ≤ B → Q (.int e) H'
theorem ok_number {f f_law_draw f_law_pick : Addr} {fd fd_law_draw fd_law_pick : FuncData} {k : Nat} (F : Fun K "_law_number" "_law_number" s_law_number f fd) (G_law_draw : FnOk P w K mg base CX0 k f_law_draw fd_law_draw ["_law_deck_here", "_law_most"] sp_draw)
    (g_law_draw : mg "_law_draw" = some (.ref f_law_draw)) (K_law_draw : PySem.W.keepIn K (.ref f_law_draw) = true) (b_law_draw : Binds K fd_law_draw ["_law_deck_here", "_law_most"] [])
    (G_law_pick : FnOk P w K mg base CX0 k f_law_pick fd_law_pick ["_law_deck_here", "_law_some"] (sp_pick K))
    (g_law_pick : mg "_law_pick" = some (.ref f_law_pick)) (K_law_pick : PySem.W.keepIn K (.ref f_law_pick) = true) (b_law_pick : Binds K fd_law_pick ["_law_deck_here", "_law_some"] []) :
    FnOk P w K mg base CX0 (k + 1) f fd ["_law_deck_here"] (sp_int 4 BIG) := by
  have nd := sc_law_number.nd
  refine F.ok sc_law_number (fun vs H Q E h => ?_) (fun cdv A outer s H vs Q E hr h => ?_)
  · obtain ⟨d, c, N, rfl, _⟩ := h
    rfl
  obtain ⟨d, c, N, rfl, D, hN, q⟩ := h
  refine ⟨_, (pss_cons (ps_set (i := 1) nd rfl (.inl rfl) (pe_op op_pow pe_int pe_int))
      (pss_cons (ps_set (i := 2) nd rfl (.inl rfl) (pe_lst (pa_cons (pv 1) (pa_cons (pe_op op_sub pe_int (pv 1)) (pa_cons (pe_op op_add (pv 1) pe_int) (pa_cons (pe_op op_sub (pe_op op_sub pe_int (pv 1)) pe_int) (pa_cons (pe_op op_sub (pv 1) pe_int) (pa_cons pe_int (pa_cons (pe_op op_sub (pe_call G_law_draw hr (by rfl) g_law_draw K_law_draw b_law_draw .nil pass0 (pa_cons (pv 0) (pa_cons pe_int pa_nil))) pe_int) (pa_cons (pe_op op_pow pe_int pe_int) (pa_cons (pe_op op_sub pe_int (pe_op op_pow pe_int pe_int)) pa_nil)))))))))))
      (pss_one (ps_ret (pe_call G_law_pick hr (by rfl) g_law_pick K_law_pick b_law_pick .nil pass0 (pa_cons (pv 0) (pa_cons (pe_op op_cat (pv 2) (pe_lst (pa_cons (pe_op op_sub (pe_call G_law_draw hr (by rfl) g_law_draw K_law_draw b_law_draw .nil pass0 (pa_cons (pv 0) (pa_cons (pe_op op_mul pe_int (pv 1)) pa_nil))) (pe_op op_mul pe_int (pv 1))) (pa_cons (pe_op op_mul (pe_call G_law_draw hr (by rfl) g_law_draw K_law_draw b_law_draw .nil pass0 (pa_cons (pv 0) (pa_cons (pe_op op_pow pe_int pe_int) pa_nil))) (pe_op op_pow pe_int pe_int)) pa_nil)))) pa_nil))))))), ?_⟩
  have e18 : (10 : Int) ^ (18 : Int).toNat = LIM := by decide
  have e39 : (10 : Int) ^ (39 : Int).toNat = BIG := by decide
  have e20 : (10 : Int) ^ (20 : Int).toNat = 100000000000000000000 := by decide
  have pw : ∀ j : Int, 0 ≤ j → j ≤ 1000000 → CPow 10 j := fun j h1 h2 => ⟨h1, h2, by decide⟩
  refine ⟨10, 18, rfl, rfl, pw _ (by decide) (by decide), ?_⟩
  show tSeq _ _ _ [some (.ref d), some (.int ((10 : Int) ^ (18 : Int).toNat)), none] H
  rw [e18]
  refine ⟨.int LIM, rfl, .int LIM, rfl, 0, LIM, rfl, rfl, .int LIM, rfl, LIM, 1, rfl, rfl, .int LIM, rfl, 0, LIM, rfl, rfl, _, 1, rfl, rfl, .int LIM, rfl, LIM, 1, rfl, rfl, .ref d, rfl, d, c, N, 100, rfl, D, by omega, by decide, by decide, fun H1 r k1 D1 r0 r1 => ?_⟩
  refine ⟨r, 50, rfl, rfl, 10, 39, rfl, rfl, pw _ (by decide) (by decide), 10, 39, rfl, rfl, pw _ (by decide) (by decide), 0, _, rfl, rfl, small_le (show 9 ≤ 1000 by decide), fun a na => ?_⟩
  have ha := D1.new na
  have sa : Same H1 (upd H1 a (.lst [.int LIM, .int (0 - LIM), .int (LIM + 1), .int (0 - LIM - 1), .int (LIM - 1), .int 0, .int (r - 50), .int (10 ^ (39 : Int).toNat), .int (0 - 10 ^ (39 : Int).toNat)])) := same_upd na
  have hla : upd H1 a (.lst [.int LIM, .int (0 - LIM), .int (LIM + 1), .int (0 - LIM - 1), .int (LIM - 1), .int 0, .int (r - 50), .int (10 ^ (39 : Int).toNat), .int (0 - 10 ^ (39 : Int).toNat)]) a = some (.lst [.int LIM, .int (0 - LIM), .int (LIM + 1), .int (0 - LIM - 1), .int (LIM - 1), .int 0, .int (r - 50), .int (10 ^ (39 : Int).toNat), .int (0 - 10 ^ (39 : Int).toNat)]) := upd_same
  have D1' := D1.same sa
  refine ⟨.ref d, rfl, .ref a, rfl, .ref d, rfl, .int LIM, rfl, 4, LIM, rfl, rfl, .inl ⟨by decide, by decide⟩, d, c, N + 1, 4 * LIM, rfl, D1', by omega, by decide, by decide, fun H2 r2 k2 D2 t0 t1 => ?_⟩
  refine ⟨.int LIM, rfl, 2, LIM, rfl, rfl, .inl ⟨by decide, by decide⟩, r2, 2 * LIM, rfl, rfl, .ref d, rfl, 10, 20, rfl, rfl, pw _ (by decide) (by decide), d, c, N + 1 + 1, _, rfl, D2, by omega, by decide, by decide, fun H3 r3 k3 D3 u0 u1 => ?_⟩
  refine ⟨10, 18, rfl, rfl, pw _ (by decide) (by decide), r3, _, rfl, rfl, .inr ⟨by decide, by decide⟩, le2, fun b nb => ?_⟩
  have hb := D3.new nb
  have hla3 := k3 _ _ ha.1 ha.2 (k2 _ _ ha.1 ha.2 hla)
  have sb := same_upd (o := .lst [.int (r2 - 2 * LIM), .int (r3 * 10 ^ (18 : Int).toNat)]) nb
  refine ⟨a, b, _, _, rfl, rfl, sb _ _ hla3, upd_same, small_le (show 11 ≤ 1000 by decide), fun l nl => ?_⟩
  have sl : Same (upd H3 b (.lst [.int (r2 - 2 * LIM), .int (r3 * 10 ^ (18 : Int).toNat)])) (upd (upd H3 b (.lst [.int (r2 - 2 * LIM), .int (r3 * 10 ^ (18 : Int).toNat)])) l (.lst [.int LIM, .int (0 - LIM), .int (LIM + 1), .int (0 - LIM - 1), .int (LIM - 1), .int 0, .int (r - 50), .int (10 ^ (39 : Int).toNat), .int (0 - 10 ^ (39 : Int).toNat), .int (r2 - 2 * LIM), .int (r3 * 10 ^ (18 : Int).toNat)])) := same_upd nl
  have hl := (D3.same sb).new nl
  refine ⟨d, c, l, N + 1 + 1 + 1, [.int LIM, .int (0 - LIM), .int (LIM + 1), .int (0 - LIM - 1), .int (LIM - 1), .int 0, .int (r - 50), .int (10 ^ (39 : Int).toNat), .int (0 - 10 ^ (39 : Int).toNat), .int (r2 - 2 * LIM), .int (r3 * 10 ^ (18 : Int).toNat)], rfl, D3.same (sb.trans sl), by omega, .inl (.inl upd_same), List.cons_ne_nil _ _, (show 11 ≤ 1000 by decide), hl.1, hl.2, fun H4 v k4 D4 hv => ?_⟩
  have hb : ∃ j, v = .int j ∧ -BIG ≤ j ∧ j ≤ BIG := by
    have hL : LIM = 1000000000000000000 := rfl
    have hG : BIG = 1000000000000000000000000000000000000000 := rfl
    have e18' : (10 : Int) ^ (18 : Int).toNat = 1000000000000000000 := by decide
    rw [e39, e18'] at hv
    rw [e20] at u1
    simp only [List.mem_cons, List.not_mem_nil, or_false] at hv
    rcases hv with rfl | rfl | rfl | rfl | rfl | rfl | rfl | rfl | rfl | rfl | rfl
    all_goals exact ⟨_, rfl, by omega, by omega⟩
  obtain ⟨j, rfl, j0, j1⟩ := hb
  exact q _ j (k1.trans ((Keep.of sa).trans (k2.trans (k3.trans ((Keep.of (sb.trans sl)).trans k4))))) (D4.mono (by omega)) j0 j1
abbrev s_law_value : Stmt := topS 14
theorem sc_law_value : FnScope ["_law_deck_here", "_law_far", "_law_some"] ["_law_deck_here"] (defScope s_law_value) := ⟨rfl, rfl, rfl, by decide +kernel, rfl, by decide +kernel, by decide +kernel⟩
theorem ok_value {f f_law_draw f_law_pick : Addr} {fd fd_law_draw fd_law_pick : FuncData} {k : Nat} (F : Fun K "_law_value" "_law_value" s_law_value f fd) (G_law_draw : FnOk P w K mg base CX0 k f_law_draw fd_law_draw ["_law_deck_here", "_law_most"] sp_draw)
    (g_law_draw : mg "_law_draw" = some (.ref f_law_draw)) (K_law_draw : PySem.W.keepIn K (.ref f_law_draw) = true) (b_law_draw : Binds K fd_law_draw ["_law_deck_here", "_law_most"] [])
    (G_law_pick : FnOk P w K mg base CX0 k f_law_pick fd_law_pick ["_law_deck_here", "_law_some"] (sp_pick K))
    (g_law_pick : mg "_law_pick" = some (.ref f_law_pick)) (K_law_pick : PySem.W.keepIn K (.ref f_law_pick) = true) (b_law_pick : Binds K fd_law_pick ["_law_deck_here", "_law_some"] []) :
    FnOk P w K mg base CX0 (k + 1) f fd ["_law_deck_here"] (sp_int 3 LIM) := by
  have nd := sc_law_value.nd
  refine F.ok sc_law_value (fun vs H Q E h => ?_) (fun cdv A outer s H vs Q E hr h => ?_)
  · obtain ⟨d, c, N, rfl, _⟩ := h
    rfl
  obtain ⟨d, c, N, rfl, D, hN, q⟩ := h
  refine ⟨_, (pss_cons (ps_set (i := 1) nd rfl (.inl rfl) (pe_op op_pow pe_int pe_int))
      (pss_cons (ps_set (i := 2) nd rfl (.inl rfl) (pe_lst (pa_cons (pv 1) (pa_cons (pe_op op_sub pe_int (pv 1)) (pa_cons (pe_op op_sub (pv 1) pe_int) (pa_cons (pe_op op_sub pe_int (pv 1)) (pa_cons pe_int (pa_cons (pe_op op_sub (pe_call G_law_draw hr (by rfl) g_law_draw K_law_draw b_law_draw .nil pass0 (pa_cons (pv 0) (pa_cons pe_int pa_nil))) pe_int) (pa_cons (pe_op op_sub (pe_call G_law_draw hr (by rfl) g_law_draw K_law_draw b_law_draw .nil pass0 (pa_cons (pv 0) (pa_cons (pe_op op_mul pe_int (pv 1)) pa_nil))) (pv 1)) pa_nil)))))))))
      (pss_one (ps_ret (pe_call G_law_pick hr (by rfl) g_law_pick K_law_pick b_law_pick .nil pass0 (pa_cons (pv 0) (pa_cons (pv 2) pa_nil))))))), ?_⟩
  have e18 : (10 : Int) ^ (18 : Int).toNat = LIM := by decide
  refine ⟨10, 18, rfl, rfl, ⟨by decide, by decide, by decide⟩, ?_⟩
  show tSeq _ _ _ [some (.ref d), some (.int ((10 : Int) ^ (18 : Int).toNat)), none] H
  rw [e18]
  refine ⟨.int LIM, rfl, .int LIM, rfl, 0, LIM, rfl, rfl, .int LIM, rfl, LIM, 1, rfl, rfl, .int LIM, rfl, 1, LIM, rfl, rfl, .ref d, rfl, d, c, N, 100, rfl, D, by omega, by decide, by decide, fun H1 r k1 D1 r0 r1 => ?_⟩
  refine ⟨r, 50, rfl, rfl, .ref d, rfl, .int LIM, rfl, 2, LIM, rfl, rfl, .inl ⟨by decide, by decide⟩, d, c, N + 1, 2 * LIM, rfl, D1, by omega, by decide, by decide, fun H2 r2 k2 D2 t0 t1 => ?_⟩
  refine ⟨.int LIM, rfl, r2, LIM, rfl, rfl, small_le (show 7 ≤ 1000 by decide), fun a na => ?_⟩
  have ha := D2.new na
  have sa : Same H2 (upd H2 a (.lst [.int LIM, .int (0 - LIM), .int (LIM - 1), .int (1 - LIM), .int 0, .int (r - 50), .int (r2 - LIM)])) := same_upd na
  refine ⟨.ref d, rfl, .ref a, rfl, d, c, a, N + 1 + 1, [.int LIM, .int (0 - LIM), .int (LIM - 1), .int (1 - LIM), .int 0, .int (r - 50), .int (r2 - LIM)], rfl, D2.same sa, by omega, .inl (.inl upd_same), List.cons_ne_nil _ _, (show 7 ≤ 1000 by decide), ha.1, ha.2, fun H3 v k3 D3 hv => ?_⟩
  have hb : ∃ j, v = .int j ∧ -LIM ≤ j ∧ j ≤ LIM := by
    have hL : LIM = 1000000000000000000 := rfl
    simp only [List.mem_cons, List.not_mem_nil, or_false] at hv
    rcases hv with rfl | rfl | rfl | rfl | rfl | rfl | rfl
    all_goals exact ⟨_, rfl, by omega, by omega⟩
  obtain ⟨j, rfl, j0, j1⟩ := hb
  exact q _ j (k1.trans (k2.trans ((Keep.of sa).trans k3))) (D3.mono (by omega)) j0 j1
abbrev s_law_between : Stmt := topS 16
theorem sc_law_between : FnScope ["_law_deck_here", "_law_span"] ["_law_deck_here", "_law_span"] (defScope s_law_between) := ⟨rfl, rfl, rfl, by decide +kernel, rfl, by decide +kernel, by decide +kernel⟩
def sp_between (K : PySem.W.Frag) : Sp := fun vs H Q _ => ∃ (d c x : Addr) (N a b : Int), vs = [.ref d, .ref x] ∧ Deck H d c N ∧ N < 2 ^ 55 ∧ SqT K H x [.int a, .int b] ∧ a ≤ b ∧ (-LIM ≤ a ∧ b ≤ LIM) ∧
  ∀ H' e, Keep d c H H' → Deck H' d c (N + 1) → a ≤ e → e ≤ b → Q (.int e) H'
theorem ok_between {f f_law_draw : Addr} {fd fd_law_draw : FuncData} {k : Nat} (F : Fun K "_law_between" "_law_between" s_law_between f fd) (G_law_draw : FnOk P w K mg base CX0 k f_law_draw fd_law_draw ["_law_deck_here", "_law_most"] sp_draw)
    (g_law_draw : mg "_law_draw" = some (.ref f_law_draw)) (K_law_draw : PySem.W.keepIn K (.ref f_law_draw) = true) (b_law_draw : Binds K fd_law_draw ["_law_deck_here", "_law_most"] []) :
    FnOk P w K mg base CX0 (k + 1) f fd ["_law_deck_here", "_law_span"] (sp_between K) := by
  have nd := sc_law_between.nd
  refine F.ok sc_law_between (fun vs H Q E h => ?_) (fun cdv A outer s H vs Q E hr h => ?_)
  · obtain ⟨d, c, x, N, a, b, rfl, _⟩ := h
    rfl
  obtain ⟨d, c, x, N, a, b, rfl, D, hN, hx, hab, hB, q⟩ := h
  have hL : LIM = 1000000000000000000 := rfl
  refine ⟨_, (pss_one (ps_ret (pe_op op_add (pe_ix ix_tup (pv 1) pe_int (fun _ _ => rfl)) (pe_call G_law_draw hr (by rfl) g_law_draw K_law_draw b_law_draw .nil pass0 (pa_cons (pv 0) (pa_cons (pe_op op_add (pe_op op_sub (pe_ix ix_tup (pv 1) pe_int (fun _ _ => rfl)) (pe_ix ix_tup (pv 1) pe_int (fun _ _ => rfl))) pe_int) pa_nil)))))), ?_⟩
  refine ⟨.ref x, rfl, x, _, 0, _, rfl, rfl, hx, at0, .ref d, rfl, .ref x, rfl, x, _, 1, _, rfl, rfl, hx, at1, .ref x, rfl, x, _, 0, _, rfl, rfl, hx, at0, _, _, rfl, rfl, _, _, rfl, rfl, d, c, N, b - a + 1, rfl, D, by omega, by omega, by omega, fun H1 r k1 D1 r0 r1 => ⟨_, _, rfl, rfl, ?_⟩⟩
  exact q _ _ k1 D1 (by omega) (by omega)
abbrev s_law_part : Stmt := topS 17
theorem sc_law_part : FnScope ["_law_deck_here", "_law_span", "_law_ends"] ["_law_deck_here", "_law_span"] (defScope s_law_part) := ⟨rfl, rfl, rfl, by decide +kernel, rfl, by decide +kernel, by decide +kernel⟩
def sp_part : Sp := fun vs H Q _ => ∃ (d c x : Addr) (N a b : Int), vs = [.ref d, .ref x] ∧ Deck H d c N ∧ N < 2 ^ 50 ∧ H x = some (.tup [.int a, .int b]) ∧ a ≤ b ∧ (-LIM ≤ a ∧ b ≤ LIM) ∧
  ∀ H' p lo hi, Keep d c H H' → Deck H' d c (N + 2) → H' p = some (.tup [.int lo, .int hi]) → lo ≤ hi → a ≤ lo → hi ≤ b → Q (.ref p) H'
theorem ok_part {f f_law_between : Addr} {fd fd_law_between : FuncData} {k : Nat} (F : Fun K "_law_part" "_law_part" s_law_part f fd) (G_law_between : FnOk P w K mg base CX0 k f_law_between fd_law_between ["_law_deck_here", "_law_span"] (sp_between K))
    (g_law_between : mg "_law_between" = some (.ref f_law_between)) (K_law_between : PySem.W.keepIn K (.ref f_law_between) = true) (b_law_between : Binds K fd_law_between ["_law_deck_here", "_law_span"] []) (msorted : mg "sorted" = none) :
    FnOk P w K mg base CX0 (k + 1) f fd ["_law_deck_here", "_law_span"] sp_part := by
  have nd := sc_law_part.nd
  refine F.ok sc_law_part (fun vs H Q E h => ?_) (fun cdv A outer s H vs Q E hr h => ?_)
  · obtain ⟨d, c, x, N, a, b, rfl, _⟩ := h
    rfl
  obtain ⟨d, c, x, N, a, b, rfl, D, hN, hx, hab, hB, q⟩ := h
  refine ⟨_, (pss_cons (ps_set (i := 2) nd rfl (.inl rfl) (pe_callB cr_sorted (by rfl) msorted boot_sorted (pa_cons (pe_lst (pa_cons (pe_call G_law_between hr (by rfl) g_law_between K_law_between b_law_between .nil pass0 (pa_cons (pv 0) (pa_cons (pv 1) pa_nil))) (pa_cons (pe_call G_law_between hr (by rfl) g_law_between K_law_between b_law_between .nil pass0 (pa_cons (pv 0) (pa_cons (pv 1) pa_nil))) pa_nil))) pa_nil)))
      (pss_one (ps_ret (pe_tup (pa_cons (pe_ix ix_list (pv 2) pe_int (fun _ _ => rfl)) (pa_cons (pe_ix ix_list (pv 2) pe_int (fun _ _ => rfl)) pa_nil)))))), ?_⟩
  refine ⟨.ref d, rfl, .ref x, rfl, d, c, x, N, a, b, rfl, D, by omega, .inl (.inl hx), hab, hB, fun H1 e1 k1 D1 a0 a1 => ?_⟩
  refine ⟨.ref d, rfl, .ref x, rfl, d, c, x, N + 1, a, b, rfl, D1, by omega, .inl (.inl (k1.tup D hx)), hab, hB, fun H2 e2 k2 D2 b0 b1 => ?_⟩
  refine ⟨le2, fun l nl => ?_⟩
  refine ⟨l, [e1, e2], rfl, .inl (.inl upd_same), (show 2 < 64 by decide), fun ns p hperm hord np => ?_⟩
  have s3 := (same_upd (o := .lst [.int e1, .int e2]) nl).trans (same_upd (o := .lst (ns.map V.int)) np)
  obtain ⟨u, v, rfl⟩ : ∃ x y, ns = [x, y] := by
    have hl := hperm.length_eq
    match ns, hl with
    | [x, y], _ => exact ⟨x, y, rfl⟩
  have hxy : u ≤ v := by simpa using hord
  have hu : u = e1 ∨ u = e2 := by simpa using hperm.subset (show u ∈ [u, v] by simp)
  have hv : v = e1 ∨ v = e2 := by simpa using hperm.subset (show v ∈ [u, v] by simp)
  refine ⟨.ref p, rfl, p, _, 0, _, rfl, rfl, .inl (.inl upd_same), at0, .ref p, rfl, p, _, 1, _, rfl, rfl, .inl (.inl upd_same), at1, le2, fun t nt => ?_⟩
  refine q _ t u v ?_ ?_ upd_same hxy (by omega) (by omega)
  · exact (k1.trans k2).trans (Keep.of (s3.trans (same_upd nt)))
  · exact (D2.same (s3.trans (same_upd nt))).mono (by omega)
abbrev s_law_holds : Stmt := topS 19
theorem sc_law_holds : FnScope ["_law_span", "_law_value_here"] ["_law_span", "_law_value_here"] (defScope s_law_holds) := ⟨rfl, rfl, rfl, by decide +kernel, rfl, by decide +kernel, by decide +kernel⟩
def sp_holds (K : PySem.W.Frag) : Sp := fun vs H Q _ => ∃ (x : Addr) (lo hi v : Int), vs = [.ref x, .int v] ∧ SqT K H x [.int lo, .int hi] ∧ lo ≤ v ∧ v ≤ hi ∧ Q (.bl true) H
theorem ok_holds {f : Addr} {fd : FuncData} {k : Nat} (F : Fun K "_law_holds" "_law_holds" s_law_holds f fd) : FnOk P w K mg base CX0 (k + 1) f fd ["_law_span", "_law_value_here"] (sp_holds K) := by
  have nd := sc_law_holds.nd
  refine F.ok sc_law_holds (fun vs H Q E h => ?_) (fun cdv A outer s H vs Q E hr h => ?_)
  · obtain ⟨x, lo, hi, v, rfl, _⟩ := h
    rfl
  obtain ⟨x, lo, hi, v, rfl, hx, h1, h2, q⟩ := h
  refine ⟨_, (pss_one (ps_ret (pe_chain op_le op_le (pe_ix ix_tup (pv 0) pe_int (fun _ _ => rfl)) (pv 1) (pe_ix ix_tup (pv 0) pe_int (fun _ _ => rfl))))), ?_⟩
  refine ⟨.ref x, rfl, x, _, 0, _, rfl, rfl, hx, at0, .int v, rfl, lo, v, rfl, rfl, _, rfl, ?_⟩
  rw [decide_eq_true h1]
  refine iteT ⟨.ref x, rfl, x, _, 1, _, rfl, rfl, hx, at1, v, hi, rfl, rfl, ?_⟩
  show Q (.bl (decide (v ≤ hi))) H
  rw [decide_eq_true h2]
  exact q
end
end K3

namespace K3
open PySem PySem.Spec PyProof.Rows L2 GR
/-! ### lists of tuples of two ints -/
def TupAll (H : Hp) : List V → List (Int × Int) → Prop := Paired fun v d => ∃ p, v = .ref p ∧ H p = some (.tup [.int d.1, .int d.2])
/-- at p a list of the tuples ds -/
def Due (H : Hp) (p : Addr) (ds : List (Int × Int)) : Prop := ∃ rs, H p = some (.lst rs) ∧ TupAll H rs ds
theorem TupAll.mono {H H' : Hp} (h : ∀ p xs, H p = some (.tup xs) → H' p = some (.tup xs)) : ∀ {rs : List V} {ds : List (Int × Int)}, TupAll H rs ds → TupAll H' rs ds := fun t => Paired.mapP t fun v d ⟨p, e, q⟩ => ⟨p, e, h _ _ q⟩
theorem TupAll.snoc {H : Hp} {v : V} {d : Int × Int} : ∀ {rs : List V} {ds : List (Int × Int)}, TupAll H rs ds → (∃ p, v = .ref p ∧ H p = some (.tup [.int d.1, .int d.2])) → TupAll H (rs ++ [v]) (ds ++ [d])
  | _, _, .nil, h => .cons h .nil
  | _, _, .cons a t, h => .cons a (TupAll.snoc t h)
theorem TupAll.length {H : Hp} {rs : List V} {ds : List (Int × Int)} (t : TupAll H rs ds) : rs.length = ds.length := Paired.length t
theorem Same.grow {H H' : Hp} {l : Addr} {o : HO} (s : Same H H') (h : H l = none) : Same H (upd H' l o) := fun b x e => by
  rw [upd_ne (ne_of_none e h)]
  exact s b x e
theorem Same.tupT {K : PySem.W.Frag} {H H' : Hp} {a : Addr} {xs : List V} (s : Same H H') (h : SqT K H a xs) : SqT K H' a xs := by
  rcases h with (h | ⟨o, h⟩) | h
  · exact .inl (.inl (s _ _ h))
  · exact .inl (.inr ⟨o, s _ _ h⟩)
  · exact .inr h
/-- what plus, minus, times, less and same tell -/
def toldD (a b c d : Int) : List (Int × Int) := [(clipI (a + c), clipI (b + d)), (clipI (a - d), clipI (b - c)), (clipI (lo4 a b c d), clipI (hi4 a b c d)), lessS a b c d, sameS a b c d]
/-! ### what repr shows of a list of pairs -/
def td (d : Int × Int) : PyData := .tuple [.int d.1, .int d.2]
def Lim (n : Int) : Prop := -LIM ≤ n ∧ n ≤ LIM
theorem lim_nat {n : Int} (h : Lim n) : n.natAbs ≤ 1000000000000000000 := by
  have h1 : -1000000000000000000 ≤ n := h.1
  have h2 : n ≤ 1000000000000000000 := h.2
  omega
theorem lim_log {n : Int} (h : Lim n) : n.natAbs.log2 < 60 := by
  by_cases e : n.natAbs = 0
  · rw [e]; decide
  · exact (Nat.log2_lt e).mpr (Nat.lt_of_le_of_lt (lim_nat h) (by decide))
theorem lim_show {n : Int} (h : Lim n) : (PyData.shown (.int n)).length ≤ 20 := by
  have e := int_text_length_le10 (k := 19) (by decide) (Nat.lt_of_le_of_lt (lim_nat h) (by decide : 1000000000000000000 < 10 ^ 19))
  rw [PyData.shown_int, PySem.ofString_length]
  exact e
theorem lim_weight {n : Int} (h : Lim n) : PyData.weight (.int n) ≤ 60 := by
  have := lim_log h
  simp only [PyData.weight]
  split <;> omega
theorem pair_facts {d : Int × Int} (h1 : Lim d.1) (h2 : Lim d.2) : (td d).showable = true ∧ (td d).leavesShort 20 = true ∧ (td d).depth = 1 ∧ (td d).weight ≤ 122 := by
  have a1 := lim_log h1
  have a2 := lim_log h2
  have w1 := lim_weight h1
  have w2 := lim_weight h2
  refine ⟨?_, ?_, ?_, ?_⟩
  · simp only [td, PyData.showable, PyData.showableAll, Bool.and_true, Bool.and_eq_true, decide_eq_true_eq]
    omega
  · simp only [td, PyData.leavesShort, PyData.leavesShortAll, Bool.and_true, Bool.and_eq_true, decide_eq_true_eq]
    exact ⟨lim_show h1, lim_show h2⟩
  · simp only [td, PyData.depth, PyData.depthAll]
    omega
  · simp only [td, PyData.weight, PyData.weightAll] at *
    omega
theorem pairs_facts : ∀ ds : List (Int × Int), (∀ d, d ∈ ds → Lim d.1 ∧ Lim d.2) → PyData.showableAll (ds.map td) = true ∧ PyData.leavesShortAll 20 (ds.map td) = true ∧ PyData.depthAll (ds.map td) ≤ 1 ∧ PyData.weightAll (ds.map td) ≤ ds.length * 123
  | [], _ => by
    refine ⟨by simp only [List.map_nil, PyData.showableAll], by simp only [List.map_nil, PyData.leavesShortAll], ?_, ?_⟩
    · simp only [List.map_nil, PyData.depthAll]; omega
    · simp only [List.map_nil, PyData.weightAll]; omega
  | d :: ds, h => by
    obtain ⟨p1, p2, p3, p4⟩ := pair_facts (h d List.mem_cons_self).1 (h d List.mem_cons_self).2
    obtain ⟨q1, q2, q3, q4⟩ := pairs_facts ds fun e he => h e (List.mem_cons_of_mem _ he)
    refine ⟨?_, ?_, ?_, ?_⟩
    · simp only [List.map_cons, PyData.showableAll, p1, q1, Bool.and_self]
    · simp only [List.map_cons, PyData.leavesShortAll, p2, q2, Bool.and_self]
    · simp only [List.map_cons, PyData.depthAll, p3]; omega
    · simp only [List.map_cons, PyData.weightAll, List.length_cons]; omega
theorem show_pairs {ds : List (Int × Int)} (h : ∀ d, d ∈ ds → Lim d.1 ∧ Lim d.2) (hl : ds.length ≤ 8) : (PyData.list (ds.map td)).showable = true ∧ (PyData.list (ds.map td)).depth ≤ 60 ∧ (PyData.list (ds.map td)).shown.length ≤ sizeLine := by
  obtain ⟨q1, q2, q3, q4⟩ := pairs_facts ds h
  refine ⟨by simp only [PyData.showable, q1], ?_, ?_⟩
  · simp only [PyData.depth]; omega
  · have e := PyData.shown_le 20 (by decide) (.list (ds.map td)) (by simp only [PyData.leavesShort, q2])
    have e2 : (PyData.list (ds.map td)).weight ≤ 984 := by
      simp only [PyData.weight]
      omega
    rw [sizeLine_eq]
    have e3 : (20 + 2) * (PyData.list (ds.map td)).weight ≤ (20 + 2) * 984 := Nat.mul_le_mul_left _ e2
    omega
theorem dp_pair {K : PySem.W.Frag} {H : Hp} {p : Addr} {d : Int × Int} (h : H p = some (.tup [.int d.1, .int d.2])) : Dp K H (.ref p) (td d) := .tup (.inl (.inl h)) (.cons (.int _) (.cons (.int _) .nil))
theorem dp_pairs {K : PySem.W.Frag} {H : Hp} : ∀ {rs : List V} {ds : List (Int × Int)}, TupAll H rs ds → DpAll K H rs (ds.map td)
  | _, _, .nil => .nil
  | _, _, .cons ⟨p, e, h⟩ t => by
    subst e
    exact .cons (dp_pair h) (dp_pairs t)
theorem Due.dp {K : PySem.W.Frag} {H : Hp} {p : Addr} {ds : List (Int × Int)} (h : Due H p ds) : Dp K H (.ref p) (.list (ds.map td)) := by
  obtain ⟨rs, e, t⟩ := h
  exact .lst (.inl (.inl e)) (dp_pairs t)
theorem Due.same {H H' : Hp} {p : Addr} {ds : List (Int × Int)} (h : Due H p ds) (s : Same H H') : Due H' p ds := by
  obtain ⟨rs, e, t⟩ := h
  exact ⟨rs, s _ _ e, t.mono fun q us z => s _ _ z⟩
theorem lim_clip (n : Int) : Lim (clipI n) := by
  rw [clipI_eq]
  unfold Lim
  have hL : LIM = 1000000000000000000 := rfl
  omega
theorem lim_told (a b c d : Int) : ∀ e, e ∈ toldD a b c d → Lim e.1 ∧ Lim e.2 := by
  intro e he
  have hL : LIM = 1000000000000000000 := rfl
  unfold toldD at he
  simp only [List.mem_cons, List.not_mem_nil, or_false] at he
  rcases he with rfl | rfl | rfl | rfl | rfl
  · exact ⟨lim_clip _, lim_clip _⟩
  · exact ⟨lim_clip _, lim_clip _⟩
  · exact ⟨lim_clip _, lim_clip _⟩
  · unfold lessS Lim
    repeat' split
    all_goals omega
  · unfold sameS Lim
    repeat' split
    all_goals omega
section
variable {P : Program} {w : World} {K : PySem.W.Frag} {mg : Str → Option Value} {base : Heap}
/-- what is told of two spans -/
def sp_due (K : PySem.W.Frag) (B : Int) : Sp := fun vs H Q _ => ∃ (x y : Addr) (a b c d : Int), vs = [.ref x, .ref y] ∧ SqT K H x [.int a, .int b] ∧ SqT K H y [.int c, .int d] ∧ a ≤ b ∧ c ≤ d ∧ (-B ≤ a ∧ b ≤ B) ∧ (-B ≤ c ∧ d ≤ B) ∧
  ∀ H' p, Same H H' → H p = none → Due H' p (toldD a b c d) → Q (.ref p) H'
theorem sp_due_len {B : Int} : ∀ vs H Q E, sp_due K B vs H Q E → vs.length = 2 := by
  rintro _ _ _ _ ⟨x, y, a, b, c, d, rfl, _⟩
  rfl
abbrev s_law_five : Stmt := topS 18
theorem sc_law_five : FnScope ["_law_one", "_law_other"] ["_law_one", "_law_other"] (defScope s_law_five) := ⟨rfl, rfl, rfl, by decide +kernel, rfl, by decide +kernel, by decide +kernel⟩
theorem ok_told {f fplus fminus ftimes fless fsame : Addr} {fd dplus dminus dtimes dless dsame : FuncData} {k : Nat} (F : Fun K "_law_five" "_law_five" s_law_five f fd)
    (Gplus : FnOk P w K mg base CX0 k fplus dplus ["one", "other"] (spTwo K fun a b c d => (clipI (a + c), clipI (b + d)))) (gplus : mg "plus" = some (.ref fplus)) (Kplus : PySem.W.keepIn K (.ref fplus) = true) (bplus : Binds K dplus ["one", "other"] [])
    (Gminus : FnOk P w K mg base CX0 k fminus dminus ["one", "other"] (spTwo K fun a b c d => (clipI (a - d), clipI (b - c)))) (gminus : mg "minus" = some (.ref fminus)) (Kminus : PySem.W.keepIn K (.ref fminus) = true) (bminus : Binds K dminus ["one", "other"] [])
    (Gtimes : FnOk P w K mg base CX0 k ftimes dtimes ["one", "other"] (spTwo K fun a b c d => (clipI (lo4 a b c d), clipI (hi4 a b c d)))) (gtimes : mg "times" = some (.ref ftimes)) (Ktimes : PySem.W.keepIn K (.ref ftimes) = true) (btimes : Binds K dtimes ["one", "other"] [])
    (Gless : FnOk P w K mg base CX0 k fless dless ["one", "other"] (spTwo K lessS)) (gless : mg "less" = some (.ref fless)) (Kless : PySem.W.keepIn K (.ref fless) = true) (bless : Binds K dless ["one", "other"] [])
    (Gsame : FnOk P w K mg base CX0 k fsame dsame ["one", "other"] (spTwo K sameS)) (gsame : mg "same" = some (.ref fsame)) (Ksame : PySem.W.keepIn K (.ref fsame) = true) (bsame : Binds K dsame ["one", "other"] []) :
    FnOk P w K mg base CX0 (k + 1) f fd ["_law_one", "_law_other"] (sp_due K LIM) := by
  have nd := sc_law_five.nd
  refine F.ok sc_law_five sp_due_len (fun cdv A outer s H vs Q E hr h => ?_)
  obtain ⟨x, y, a, b, c, d, rfl, hx, hy, hab, hcd, hB, hB2, q⟩ := h
  have hL : LIM = 1000000000000000000 := rfl
  have ba : -(2 ^ 64) < a ∧ a < 2 ^ 64 := by omega
  have bb : -(2 ^ 64) < b ∧ b < 2 ^ 64 := by omega
  refine ⟨_, (pss_one (ps_ret (pe_lst (pa_cons (pe_call Gplus hr (by rfl) gplus Kplus bplus .nil pass0 (pa_cons (pv 0) (pa_cons (pv 1) pa_nil))) (pa_cons (pe_call Gminus hr (by rfl) gminus Kminus bminus .nil pass0 (pa_cons (pv 0) (pa_cons (pv 1) pa_nil))) (pa_cons (pe_call Gtimes hr (by rfl) gtimes Ktimes btimes .nil pass0 (pa_cons (pv 0) (pa_cons (pv 1) pa_nil))) (pa_cons (pe_call Gless hr (by rfl) gless Kless bless .nil pass0 (pa_cons (pv 0) (pa_cons (pv 1) pa_nil))) (pa_cons (pe_call Gsame hr (by rfl) gsame Ksame bsame .nil pass0 (pa_cons (pv 0) (pa_cons (pv 1) pa_nil))) pa_nil)))))))), ?_⟩
  refine ⟨.ref x, rfl, .ref y, rfl, x, y, a, b, c, d, rfl, hx, hy, ba, bb, fun H1 p1 s1 n1 h1 => ?_⟩
  refine ⟨.ref x, rfl, .ref y, rfl, x, y, a, b, c, d, rfl, Same.tupT s1 hx, Same.tupT s1 hy, ba, bb, fun H2 p2 s2 n2 h2 => ?_⟩
  have S2 := s1.trans s2
  refine ⟨.ref x, rfl, .ref y, rfl, x, y, a, b, c, d, rfl, Same.tupT S2 hx, Same.tupT S2 hy, ba, bb, fun H3 p3 s3 n3 h3 => ?_⟩
  have S3 := S2.trans s3
  refine ⟨.ref x, rfl, .ref y, rfl, x, y, a, b, c, d, rfl, Same.tupT S3 hx, Same.tupT S3 hy, ba, bb, fun H4 p4 s4 n4 h4 => ?_⟩
  have S4 := S3.trans s4
  refine ⟨.ref x, rfl, .ref y, rfl, x, y, a, b, c, d, rfl, Same.tupT S4 hx, Same.tupT S4 hy, ba, bb, fun H5 p5 s5 n5 h5 => ?_⟩
  refine ⟨small_le (show 5 ≤ 1000 by decide), fun l nl => ?_⟩
  have s6 := same_upd (o := .lst [.ref p1, .ref p2, .ref p3, .ref p4, .ref p5]) nl
  refine q _ l (S4.trans (s5.trans s6)) ((S4.trans s5).free nl) ⟨_, upd_same, ?_⟩
  exact .cons ⟨p1, rfl, s6 _ _ (s5 _ _ (s4 _ _ (s3 _ _ (s2 _ _ h1))))⟩ (.cons ⟨p2, rfl, s6 _ _ (s5 _ _ (s4 _ _ (s3 _ _ h2)))⟩ (.cons ⟨p3, rfl, s6 _ _ (s5 _ _ (s4 _ _ h3))⟩ (.cons ⟨p4, rfl, s6 _ _ (s5 _ _ h4)⟩ (.cons ⟨p5, rfl, s6 _ _ h5⟩ .nil))))
end
/-! ### the mathematics -/
theorem clip_mono {m n : Int} (h : m ≤ n) : clipI m ≤ clipI n := by
  rw [clipI_eq, clipI_eq]
  omega
theorem clip_in {n : Int} (h : Lim n) : clipI n = n := by
  have h1 := h.1
  have h2 := h.2
  have hL : LIM = 1000000000000000000 := rfl
  rw [clipI_eq]
  omega
theorem clip_clip (n : Int) : clipI (clipI n) = clipI n := clip_in (lim_clip n)
theorem clip_neg (n : Int) : clipI (0 - n) = 0 - clipI n := by
  have hL : LIM = 1000000000000000000 := rfl
  rw [clipI_eq, clipI_eq]
  omega
theorem mul_btw {x u v w : Int} (h1 : u ≤ v) (h2 : v ≤ w) : min (x * u) (x * w) ≤ x * v ∧ x * v ≤ max (x * u) (x * w) := by
  rcases Int.le_total 0 x with hx | hx
  · have p1 := Int.mul_le_mul_of_nonneg_left h1 hx
    have p2 := Int.mul_le_mul_of_nonneg_left h2 hx
    omega
  · have p1 := Int.mul_le_mul_of_nonpos_left hx h1
    have p2 := Int.mul_le_mul_of_nonpos_left hx h2
    omega
theorem lo4_le {a b c d u v : Int} (h1 : a ≤ u ∧ u ≤ b) (h2 : c ≤ v ∧ v ≤ d) : lo4 a b c d ≤ u * v ∧ u * v ≤ hi4 a b c d := by
  have p := mul_btw (x := u) h2.1 h2.2
  have p1 := mul_btw (x := c) h1.1 h1.2
  have p2 := mul_btw (x := d) h1.1 h1.2
  rw [Int.mul_comm c a, Int.mul_comm c u, Int.mul_comm c b] at p1
  rw [Int.mul_comm d a, Int.mul_comm d u, Int.mul_comm d b] at p2
  unfold lo4 hi4
  omega
def bit (b : Bool) : Int := if b = true then 1 else 0
/-- what is due of two values -/
def dueV (u v : Int) : List Int := [clipI (u + v), clipI (u - v), clipI (u * v), bit (decide (u < v)), bit (decide (V.int u = V.int v))]
def inS (s : Int × Int) (n : Int) : Prop := s.1 ≤ n ∧ n ≤ s.2
theorem bit_eq (u v : Int) : bit (decide (V.int u = V.int v)) = if u = v then 1 else 0 := by
  unfold bit
  by_cases h : u = v
  · rw [if_pos h, if_pos (decide_eq_true (congrArg V.int h))]
  · rw [if_neg h, if_neg (fun z => h (V.int.inj (of_decide_eq_true z)))]
theorem bit_lt (u v : Int) : bit (decide (u < v)) = if u < v then 1 else 0 := by
  unfold bit
  by_cases h : u < v
  · rw [if_pos h, if_pos (decide_eq_true h)]
  · rw [if_neg h, if_neg (fun z => h (of_decide_eq_true z))]
theorem due_in {a b c d u v : Int} (h1 : a ≤ u ∧ u ≤ b) (h2 : c ≤ v ∧ v ≤ d) : Paired inS (toldD a b c d) (dueV u v) := by
  have p := lo4_le h1 h2
  refine .cons ⟨clip_mono (by omega), clip_mono (by omega)⟩ (.cons ⟨clip_mono (by omega), clip_mono (by omega)⟩ (.cons ⟨clip_mono p.1, clip_mono p.2⟩ (.cons ?_ (.cons ?_ .nil))))
  · rw [bit_lt]
    unfold lessS inS
    repeat' split
    all_goals (simp only; omega)
  · rw [bit_eq]
    unfold sameS inS
    repeat' split
    all_goals (simp only; omega)
theorem told_single (u v : Int) : toldD u u v v = (dueV u v).map fun n => (n, n) := by
  have e3 : lo4 u u v v = u * v := by unfold lo4; omega
  have e4 : hi4 u u v v = u * v := by unfold hi4; omega
  unfold toldD dueV
  rw [bit_lt, bit_eq, e3, e4]
  simp only [List.map_cons, List.map_nil]
  have e1 : lessS u u v v = ((if u < v then 1 else 0 : Int), (if u < v then 1 else 0 : Int)) := by
    unfold lessS
    by_cases h : u < v
    · rw [if_pos h, if_pos h]
    · rw [if_neg h, if_neg h, if_pos (by omega)]
  have e2 : sameS u u v v = ((if u = v then 1 else 0 : Int), (if u = v then 1 else 0 : Int)) := by
    unfold sameS
    by_cases h : u = v
    · rw [if_pos h, if_neg (by omega), if_pos ⟨rfl, rfl⟩]
    · rw [if_neg h, if_pos (by omega)]
  rw [e1, e2]
/-- the one span lies within the other -/
def subS (s t : Int × Int) : Prop := s.1 ≤ t.1 ∧ t.2 ≤ s.2
theorem told_within {a b c d a' b' c' d' : Int} (h1 : a ≤ a' ∧ a' ≤ b' ∧ b' ≤ b) (h2 : c ≤ c' ∧ c' ≤ d' ∧ d' ≤ d) : Paired subS (toldD a b c d) (toldD a' b' c' d') := by
  have p1 := lo4_le (a := a) (b := b) (c := c) (d := d) (u := a') (v := c') (by omega) (by omega)
  have p2 := lo4_le (a := a) (b := b) (c := c) (d := d) (u := a') (v := d') (by omega) (by omega)
  have p3 := lo4_le (a := a) (b := b) (c := c) (d := d) (u := b') (v := c') (by omega) (by omega)
  have p4 := lo4_le (a := a) (b := b) (c := c) (d := d) (u := b') (v := d') (by omega) (by omega)
  have q1 : lo4 a b c d ≤ lo4 a' b' c' d' := by
    have e : lo4 a' b' c' d' = min (min (a' * c') (a' * d')) (min (b' * c') (b' * d')) := rfl
    omega
  have q2 : hi4 a' b' c' d' ≤ hi4 a b c d := by
    have e : hi4 a' b' c' d' = max (max (a' * c') (a' * d')) (max (b' * c') (b' * d')) := rfl
    omega
  refine .cons ⟨clip_mono (by omega), clip_mono (by omega)⟩ (.cons ⟨clip_mono (by omega), clip_mono (by omega)⟩ (.cons ⟨clip_mono q1, clip_mono q2⟩ (.cons ?_ (.cons ?_ .nil))))
  · unfold lessS subS
    repeat' split
    all_goals (simp only; omega)
  · unfold sameS subS
    repeat' split
    all_goals (simp only; omega)
theorem hull_sub {s t : Int × Int} (h : subS s t) : (minI s.1 t.1, maxI s.2 t.2) = s := by
  have h1 := h.1
  have h2 := h.2
  have e1 : minI s.1 t.1 = s.1 := by unfold minI; rw [if_neg (by omega)]
  have e2 : maxI s.2 t.2 = s.2 := by unfold maxI; rw [if_neg (by omega)]
  rw [e1, e2]
theorem Paired.at {α β : Type} {F : α → β → Prop} : ∀ {l₁ : List α} {l₂ : List β} {i : Nat} {x : α}, Paired F l₁ l₂ → l₁[i]? = some x → ∃ y, l₂[i]? = some y ∧ F x y
  | _, _, _, _, .nil, h => by simp at h
  | _, _, 0, x, .cons r t, h => by
    have e := Option.some.inj h
    subst e
    exact ⟨_, rfl, r⟩
  | _, _, i + 1, x, .cons r t, h => Paired.at (i := i) t h
theorem eqv_td (d : Int × Int) : PyData.eqv (td d) (td d) = true := by
  simp only [td, PyData.eqv, PyData.eqvAll, beq_self_eq_true, Bool.and_self]
theorem shaped_td (d : Int × Int) : SeqAt.shaped (td d) = true := by
  unfold SeqAt.shaped td
  rw [Bool.and_eq_true]
  refine ⟨by simp only [PyData.canLay0, PyData.canLayAll0, Bool.and_self], decide_eq_true ?_⟩
  simp only [PyData.depth, PyData.depthAll]
  omega
end K3

namespace K3
open PySem PySem.Spec PyProof.Rows L2 GR
/-- all but what stands at D is as it was -/
def Off (D : Addr) (H H' : Hp) : Prop := ∀ b o, b ≠ D → H b = some o → H' b = some o
/-- the heap in which the list at D is being made: all else of H0 as it was -/
def Made (D : Addr) (H0 : Hp) (res : List (Int × Int)) (i : Nat) (H : Hp) : Prop := Off D H0 H ∧ ∃ rs, H D = some (.lst rs) ∧ TupAll H rs (res.take i)
theorem made_end {D : Addr} {H0 H : Hp} {res : List (Int × Int)} {n : Nat} (hn : n = res.length) (hD : H0 D = none) (hm : Made D H0 res n H) : Same H0 H ∧ Due H D res := by
  subst hn
  obtain ⟨off, rs, hrs, hT⟩ := hm
  rw [List.take_length] at hT
  exact ⟨fun b o e => off b o (ne_of_none e hD) e, rs, hrs, hT⟩
theorem made_start {D : Addr} {H0 : Hp} {res : List (Int × Int)} (hD : H0 D = none) : Made D H0 res 0 (upd H0 D (.lst [])) :=
  ⟨fun b o nb e => by rw [upd_ne nb]; exact e, [], upd_same, .nil⟩
/-- the list at D stays empty -/
def Bare (D : Addr) (H0 : Hp) (H : Hp) : Prop := Off D H0 H ∧ H D = some (.lst [])
theorem bare_start {D : Addr} {H0 : Hp} : Bare D H0 (upd H0 D (.lst [])) := ⟨fun b o nb e => by rw [upd_ne nb]; exact e, upd_same⟩
theorem bare_grow {D : Addr} {H0 H H' : Hp} (h : Bare D H0 H) (s : Same H H') : Bare D H0 H' := ⟨fun b o nb e => s _ _ (h.1 b o nb e), s _ _ h.2⟩
theorem bare_same {D : Addr} {H0 H : Hp} (hD : H0 D = none) (h : Bare D H0 H) : Same H0 H := fun b o e => h.1 b o (ne_of_none e hD) e
theorem show_ints {ns : List Int} (h : ∀ n, n ∈ ns → Lim n) (hl : ns.length ≤ 8) : (PyData.list (ns.map .int)).showable = true ∧ (PyData.list (ns.map .int)).depth ≤ 60 ∧ (PyData.list (ns.map .int)).shown.length ≤ sizeLine := by
  have all : ∀ ns : List Int, (∀ n, n ∈ ns → Lim n) → PyData.showableAll (ns.map .int) = true ∧ PyData.leavesShortAll 20 (ns.map .int) = true ∧ PyData.depthAll (ns.map .int) ≤ 1 ∧ PyData.weightAll (ns.map .int) ≤ ns.length * 123 := by
    intro ns
    induction ns with
    | nil =>
      intro _
      refine ⟨by simp only [List.map_nil, PyData.showableAll], by simp only [List.map_nil, PyData.leavesShortAll], ?_, ?_⟩
      · simp only [List.map_nil, PyData.depthAll]; omega
      · simp only [List.map_nil, PyData.weightAll]; omega
    | cons n ns ih =>
      intro h
      obtain ⟨q1, q2, q3, q4⟩ := ih fun e he => h e (List.mem_cons_of_mem _ he)
      have a1 := lim_log (h n List.mem_cons_self)
      have a2 := lim_show (h n List.mem_cons_self)
      have a3 := lim_weight (h n List.mem_cons_self)
      refine ⟨?_, ?_, ?_, ?_⟩
      · simp only [List.map_cons, PyData.showableAll, PyData.showable, q1, Bool.and_true, decide_eq_true_eq]; omega
      · simp only [List.map_cons, PyData.leavesShortAll, PyData.leavesShort, q2, Bool.and_true, decide_eq_true_eq]; exact a2
      · simp only [List.map_cons, PyData.depthAll, PyData.depth]; omega
      · simp only [List.map_cons, PyData.weightAll, List.length_cons]; omega
  obtain ⟨q1, q2, q3, q4⟩ := all ns h
  refine ⟨by simp only [PyData.showable, q1], ?_, ?_⟩
  · simp only [PyData.depth]; omega
  · have e := PyData.shown_le 20 (by decide) (.list (ns.map .int)) (by simp only [PyData.leavesShort, q2])
    have e2 : (PyData.list (ns.map .int)).weight ≤ 984 := by
      simp only [PyData.weight]
      omega
    rw [sizeLine_eq]
    have e3 : (20 + 2) * (PyData.list (ns.map .int)).weight ≤ (20 + 2) * 984 := Nat.mul_le_mul_left _ e2
    omega
theorem dp_ilist {K : PySem.W.Frag} {H : Hp} {p : Addr} {ns : List Int} (h : H p = some (.lst (ns.map V.int))) : Dp K H (.ref p) (.list (ns.map .int)) := .lst (.inl (.inl h)) (dp_ints ns)
section
variable {P : Program} {w : World} {K : PySem.W.Frag} {mg : Str → Option Value} {base : Heap}
abbrev s_law_clip_right : Stmt := topS 15
theorem sc_law_clip_right : FnScope ["_law_number_here", "_law_due"] ["_law_number_here"] (defScope s_law_clip_right) := ⟨rfl, rfl, rfl, by decide +kernel, rfl, by decide +kernel, by decide +kernel⟩
def sp_clip_right : Sp := fun vs H Q _ => ∃ n : Int, vs = [.int n] ∧ ∀ H', Same H H' → Q (.bl true) H'
theorem ok_clip_right {f fclip : Addr} {fd dclip : FuncData} {k : Nat} (F : Fun K "_law_clip_right" "_law_clip_right" s_law_clip_right f fd)
    (Gclip : FnOk P w K mg base CX0 k fclip dclip ["number"] sp_clip) (gclip : mg "clip" = some (.ref fclip)) (Kclip : PySem.W.keepIn K (.ref fclip) = true) (bclip : Binds K dclip ["number"] []) (mrepr : mg "repr" = none) :
    FnG P w K mg base CX0 (k + 1) f fd ["_law_number_here"] sp_clip_right := by
  have nd := sc_law_clip_right.nd
  refine ok_g F sc_law_clip_right (fun vs H Q E h => ?_) (fun cdv A outer s H vs Q E hg hr h => ?_)
  · obtain ⟨n, rfl, _⟩ := h
    rfl
  obtain ⟨n, rfl, q⟩ := h
  have hL : LIM = 1000000000000000000 := rfl
  refine ⟨_, (pss_cons (ps_set (i := 1) nd rfl (.inl rfl) (pv 0))
      (Evl.pss_cut (ps_if (pt_cmpR op_gt (pv 0) (pe_op op_pow pe_int pe_int) (nomark _))
      (pss_one (ps_set (i := 1) nd rfl (.inl rfl) (pe_op op_pow pe_int pe_int)))
      pss_nil)
      (Evl.pss_cut (ps_if (pt_cmpR op_lt (pv 0) (pe_op op_sub pe_int (pe_op op_pow pe_int pe_int)) (nomark _))
      (pss_one (ps_set (i := 1) nd rfl (.inl rfl) (pe_op op_sub pe_int (pe_op op_pow pe_int pe_int))))
      pss_nil)
      (pss_one (ps_ret (pe_cmpR op_eq (pe_callB (call_reprD hg hr) (by rfl) mrepr boot_repr (pa_cons (pe_lst (pa_cons (pe_call Gclip hr (by rfl) gclip Kclip bclip .nil pass0 (pa_cons (pv 0) pa_nil)) (pa_cons (pe_call Gclip hr (by rfl) gclip Kclip bclip .nil pass0 (pa_cons (pe_call Gclip hr (by rfl) gclip Kclip bclip .nil pass0 (pa_cons (pv 0) pa_nil)) pa_nil)) (pa_cons (pe_call Gclip hr (by rfl) gclip Kclip bclip .nil pass0 (pa_cons (pe_op op_sub pe_int (pv 0)) pa_nil)) pa_nil)))) pa_nil)) (pe_callB (call_reprD hg hr) (by rfl) mrepr boot_repr (pa_cons (pe_lst (pa_cons (pv 1) (pa_cons (pv 1) (pa_cons (pe_op op_sub pe_int (pv 1)) pa_nil)))) pa_nil)) (nomark _))))))), ?_⟩
  have pw : ∀ j : Int, 0 ≤ j → j ≤ 1000000 → CPow 10 j := fun j h1 h2 => ⟨h1, h2, by decide⟩
  have e18 : (10 : Int) ^ (18 : Int).toNat = LIM := by decide
  refine ⟨.int n, rfl, fun σ' H' => H' = H ∧ σ' = [some (.int n), some (.int (if LIM < n then LIM else n))], ?_, ?_⟩
  · refine ⟨.int n, rfl, 10, 18, rfl, rfl, pw _ (by decide) (by decide), n, _, rfl, rfl, _, rfl, ite2 (fun e => ?_) (fun e => ?_)⟩
    · have e := of_decide_eq_true e
      rw [e18] at e
      refine ⟨10, 18, rfl, rfl, pw _ (by decide) (by decide), rfl, ?_⟩
      rw [if_pos e, ← e18]
      rfl
    · have e : ¬ LIM < n := fun z => e (decide_eq_true (by rw [e18]; exact z))
      refine ⟨rfl, ?_⟩
      rw [if_neg e]
      rfl
  rintro σ' H' ⟨rfl, rfl⟩
  refine ⟨fun σ' H2 => H2 = H' ∧ σ' = [some (.int n), some (.int (clipI n))], ?_, ?_⟩
  · refine ⟨.int n, rfl, 10, 18, rfl, rfl, pw _ (by decide) (by decide), 0, _, rfl, rfl, n, _, rfl, rfl, _, rfl, ite2 (fun e => ?_) (fun e => ?_)⟩
    · have e := of_decide_eq_true e
      rw [e18] at e
      refine ⟨10, 18, rfl, rfl, pw _ (by decide) (by decide), 0, _, rfl, rfl, rfl, ?_⟩
      have : clipI n = 0 - LIM := by rw [clipI_eq]; omega
      rw [this, ← e18]
      rfl
    · have e : ¬ n < 0 - LIM := fun z => e (decide_eq_true (by rw [e18]; exact z))
      refine ⟨rfl, ?_⟩
      have : (if LIM < n then LIM else n) = clipI n := by
        rw [clipI_eq]
        split <;> omega
      rw [this]
  rintro σ' H2 ⟨rfl, rfl⟩
  have lim3 : ∀ m, m ∈ [clipI n, clipI n, 0 - clipI n] → Lim m := by
    intro m hm
    have h1 := (lim_clip n).1
    have h2 := (lim_clip n).2
    simp only [List.mem_cons, List.not_mem_nil, or_false] at hm
    unfold Lim
    omega
  obtain ⟨w1, w2, w3⟩ := show_ints lim3 (show 3 ≤ 8 by decide)
  refine ⟨.int n, rfl, n, rfl, .int n, rfl, n, rfl, _, rfl, .int n, rfl, 0, n, rfl, rfl, _, rfl, small_le (show 3 ≤ 1000 by decide), fun l nl => ?_⟩
  have sl := same_upd (o := .lst ([clipI n, clipI (clipI n), clipI (0 - n)].map V.int)) nl
  have eq3 : [clipI n, clipI (clipI n), clipI (0 - n)] = [clipI n, clipI n, 0 - clipI n] := by rw [clip_clip, clip_neg]
  have h1 : upd H2 l (.lst ([clipI n, clipI (clipI n), clipI (0 - n)].map V.int)) l = some (.lst ([clipI n, clipI n, 0 - clipI n].map V.int)) := by rw [upd_same, eq3]
  refine ⟨l, _, rfl, dp_ilist h1, w1, w2, w3, .int (clipI n), rfl, .int (clipI n), rfl, .int (clipI n), rfl, 0, clipI n, rfl, rfl, small_le (show 3 ≤ 1000 by decide), fun m nm => ?_⟩
  refine ⟨m, _, rfl, dp_ilist (ns := [clipI n, clipI n, 0 - clipI n]) upd_same, w1, w2, w3, rfl, ?_⟩
  rw [decide_eq_true rfl]
  exact q _ (sl.trans (same_upd nm))
abbrev s_law_pair_right : Stmt := topS 20
abbrev N_pair_right : List Str := ["_law_spans", "_law_a", "_law_b", "_law_due", "_law_k", "_law_value_here"]
theorem sc_law_pair_right : FnScope N_pair_right ["_law_spans", "_law_a", "_law_b"] (defScope s_law_pair_right) := ⟨rfl, rfl, rfl, by decide +kernel, rfl, by decide +kernel, by decide +kernel⟩
def sp_pair_right : Sp := fun vs H Q _ => ∃ (p : Addr) (a b c d u v : Int), vs = [.ref p, .int u, .int v] ∧ Due H p (toldD a b c d) ∧ (a ≤ u ∧ u ≤ b) ∧ (c ≤ v ∧ v ≤ d) ∧ (-LIM ≤ a ∧ b ≤ LIM) ∧ (-LIM ≤ c ∧ d ≤ LIM) ∧ ∀ H', Same H H' → Q (.bl true) H'
theorem ok_pair_right {f fclip f_law_holds f_law_five : Addr} {fd dclip d_law_holds d_law_five : FuncData} {k : Nat} (F : Fun K "_law_pair_right" "_law_pair_right" s_law_pair_right f fd)
    (Gclip : FnOk P w K mg base CX0 k fclip dclip ["number"] sp_clip) (gclip : mg "clip" = some (.ref fclip)) (Kclip : PySem.W.keepIn K (.ref fclip) = true) (bclip : Binds K dclip ["number"] [])
    (G_law_holds : FnOk P w K mg base CX0 k f_law_holds d_law_holds ["_law_span", "_law_value_here"] (sp_holds K)) (g_law_holds : mg "_law_holds" = some (.ref f_law_holds)) (K_law_holds : PySem.W.keepIn K (.ref f_law_holds) = true) (b_law_holds : Binds K d_law_holds ["_law_span", "_law_value_here"] [])
    (G_law_five : FnOk P w K mg base CX0 k f_law_five d_law_five ["_law_one", "_law_other"] (sp_due K LIM)) (g_law_five : mg "_law_five" = some (.ref f_law_five)) (K_law_five : PySem.W.keepIn K (.ref f_law_five) = true) (b_law_five : Binds K d_law_five ["_law_one", "_law_other"] [])
    (mrange : mg "range" = none) (mint : mg "int" = none) (mrepr : mg "repr" = none) :
    FnG P w K mg base CX0 (k + 1) f fd ["_law_spans", "_law_a", "_law_b"] sp_pair_right := by
  have nd := sc_law_pair_right.nd
  refine ok_g F sc_law_pair_right (fun vs H Q E h => ?_) (fun cdv A outer s H vs Q E hg hr h => ?_)
  · obtain ⟨p, a, b, c, d, u, v, rfl, _⟩ := h
    rfl
  obtain ⟨p, a, b, c, d, u, v, rfl, hp, hu, hv, hB, hB2, q⟩ := h
  have hL : LIM = 1000000000000000000 := rfl
  refine ⟨_, (pss_cons (ps_set (i := 3) nd rfl (.inr rfl) (pe_lst (pa_cons (pe_call Gclip hr (by rfl) gclip Kclip bclip .nil pass0 (pa_cons (pe_op op_add (pv 1) (pv 2)) pa_nil)) (pa_cons (pe_call Gclip hr (by rfl) gclip Kclip bclip .nil pass0 (pa_cons (pe_op op_sub (pv 1) (pv 2)) pa_nil)) (pa_cons (pe_call Gclip hr (by rfl) gclip Kclip bclip .nil pass0 (pa_cons (pe_op op_mul (pv 1) (pv 2)) pa_nil)) (pa_cons (pe_callTy call_int1 (by rfl) mint boot_int (pa_cons (pe_cmpR op_lt (pv 1) (pv 2) (nomark _)) pa_nil)) (pa_cons (pe_callTy call_int1 (by rfl) mint boot_int (pa_cons (pe_cmpR op_eq (pv 1) (pv 2) (nomark _)) pa_nil)) pa_nil)))))))
      (pss_cons (ps_if (pt_cmpR (op_neD hr.units) (pe_lc (own := [("_law_k", 4)]) rfl nd (pi_range1 rfl mrange (pa_cons pe_int pa_nil)) (blkOk_by (N := N_pair_right) (sc := defScope s_law_pair_right) (by decide +kernel)) (fun _ _ _ _ _ => (pg_name (i := 4) nd rfl (Or.inl rfl)))
          (tt := tNot (tB (tCall (sp_holds K) [] E0 (tCons (tOp (rIxL K) (tVar 0) (tVar 4)) (tCons (tOp (rIxL K) (tVar 3) (tVar 4)) tNil)))))
          (fun _ _ _ _ _ => (pts_one (pt_not (pt_val (pe_call G_law_holds hr (by rfl) g_law_holds K_law_holds b_law_holds .nil pass0 (pa_cons (pe_ix ix_list (pv 0) (pv 4) (fun _ _ => rfl)) (pa_cons (pe_ix ix_list (pv 3) (pv 4) (fun _ _ => rfl)) pa_nil))))))) (fun _ _ _ _ _ => (pv 4))) (pe_lst pa_nil) (nomark _))
      (pss_one (ps_ret pe_bl))
      pss_nil)
      (pss_one (ps_ret (pe_cmpR op_eq (pe_callB (call_reprD hg hr) (by rfl) mrepr boot_repr (pa_cons (pe_call G_law_five hr (by rfl) g_law_five K_law_five b_law_five .nil pass0 (pa_cons (pe_tup (pa_cons (pv 1) (pa_cons (pv 1) pa_nil))) (pa_cons (pe_tup (pa_cons (pv 2) (pa_cons (pv 2) pa_nil))) pa_nil))) pa_nil)) (pe_callB (call_reprD hg hr) (by rfl) mrepr boot_repr (pa_cons (pe_lc (own := [("_law_value_here", 5)]) rfl nd (pi_list (pv 3)) (blkOk_by (N := N_pair_right) (sc := defScope s_law_pair_right) (by decide +kernel)) (fun _ _ _ _ _ => (pg_name (i := 5) nd rfl (Or.inl rfl))) (fun _ _ _ _ _ => pts_nil) (fun _ _ _ _ _ => (pe_tup (pa_cons (pv 5) (pa_cons (pv 5) pa_nil))))) pa_nil)) (nomark _)))))), ?_⟩
  refine ⟨.int u, rfl, .int v, rfl, u, v, rfl, rfl, _, rfl, .int u, rfl, .int v, rfl, u, v, rfl, rfl, _, rfl, .int u, rfl, .int v, rfl, u, v, rfl, rfl, .inl ⟨by omega, by omega⟩, _, rfl, .int u, rfl, .int v, rfl, u, v, rfl, rfl, .inr ⟨_, rfl, .int u, rfl, .int v, rfl, rfl, .inr ⟨_, rfl, small_le (show 5 ≤ 1000 by decide), fun pd npd => ?_⟩⟩⟩
  have s1 : Same H (upd H pd (.lst ((dueV u v).map V.int))) := same_upd npd
  have hpd : upd H pd (.lst ((dueV u v).map V.int)) pd = some (.lst ((dueV u v).map V.int)) := upd_same
  obtain ⟨rs, hrs, hT⟩ := hp
  have hin := due_in hu hv
  refine ⟨5, rfl, by decide, by decide, fun D nD => ?_⟩
  have npD : pd ≠ D := ne_of_none hpd nD
  have nsD : p ≠ D := ne_of_none (s1 _ _ hrs) nD
  refine lc_range (n := 5) (fun i H' => Bare D (upd H pd (.lst ((dueV u v).map V.int))) H') bare_start ?_ ?_
  · intro i H' hi hb
    obtain ⟨r, hr', hq⟩ : ∃ r, (toldD a b c d)[i]? = some r ∧ True := by
      refine ⟨(toldD a b c d)[i]'hi, List.getElem?_eq_getElem hi, trivial⟩
    obtain ⟨m, hm, hin'⟩ := Paired.at hin hr'
    have hTl : rs.length = 5 := hT.length
    have hri : rs[i]? = some (rs[i]'(by omega)) := List.getElem?_eq_getElem (by omega)
    obtain ⟨r2, hr2, q2, e2, h2⟩ := Paired.at hT hri
    rw [hr'] at hr2
    cases hr2
    have hq2 := hb.1 _ _ (ne_of_none (s1 _ _ h2) nD) (s1 _ _ h2)
    have hmV : ((dueV u v).map V.int)[i]? = some (.int m) := by
      rw [List.getElem?_map, hm]
      rfl
    refine ⟨rfl, .ref p, rfl, .int (0 + (i : Int)), rfl, p, rs, 0 + (i : Int), .ref q2, rfl, rfl, .inl (.inl (hb.1 _ _ nsD (s1 _ _ hrs))), at_of (j := i) (by omega) (by rw [hri, e2]), .ref pd, rfl, .int (0 + (i : Int)), rfl, pd, _, 0 + (i : Int), .int m, rfl, rfl, .inl (.inl (hb.1 _ _ npD hpd)), at_of (j := i) (by omega) hmV, q2, r.1, r.2, m, rfl, .inl (.inl hq2), hin'.1, hin'.2, true, rfl, iteF hb⟩
  · intro H' hb
    have s2 := bare_same nD hb
    refine ⟨Nat.zero_le _, fun e ne => ?_⟩
    have s3 := same_upd (o := .lst []) ne
    refine ⟨_, _, .lst (.inl (.inl (s3 _ _ hb.2))) .nil, .lst (.inl (.inl upd_same)) .nil, shaped_ints [], shaped_ints [], _, rfl, ?_⟩
    refine iteF ?_
    have S3 : Same H _ := s1.trans (s2.trans s3)
    have hpd3 := s3 _ _ (s2 _ _ hpd)
    refine ⟨.int u, rfl, .int u, rfl, le2, fun t1 n1 => ?_⟩
    have st1 := same_upd (o := .tup [.int u, .int u]) n1
    refine ⟨.int v, rfl, .int v, rfl, le2, fun t2 n2 => ?_⟩
    have st2 := same_upd (o := .tup [.int v, .int v]) n2
    refine ⟨t1, t2, u, u, v, v, rfl, .inl (.inl (st2 _ _ upd_same)), .inl (.inl upd_same), Int.le_refl _, Int.le_refl _, by omega, by omega, fun H5 p5 s5 n5 d5 => ?_⟩
    rw [told_single] at d5
    have lim5 : ∀ e, e ∈ (dueV u v).map (fun n => (n, n)) → Lim e.1 ∧ Lim e.2 := by
      rw [← told_single]
      exact lim_told u u v v
    obtain ⟨w1, w2, w3⟩ := show_pairs lim5 (show 5 ≤ 8 by decide)
    have hpd5 := s5 _ _ (st2 _ _ (st1 _ _ hpd3))
    refine ⟨p5, _, rfl, d5.dp, w1, w2, w3, .ref pd, rfl, pd, rfl, ⟨_, .inl (.inl hpd5)⟩, fun D2 nD2 => ?_⟩
    have npD2 : pd ≠ D2 := ne_of_none hpd5 nD2
    refine lc_list (xs := (dueV u v).map V.int) (Made D2 H5 ((dueV u v).map fun n => (n, n))) (made_start nD2) ?_ ?_ ?_
    · rintro i H6 _ ⟨off, _⟩
      exact .inl (.inl (off _ _ npD2 hpd5))
    · rintro i x H6 hx ⟨off, rs6, hrs6, hT6⟩
      rw [List.getElem?_map] at hx
      obtain ⟨m, hm, rfl⟩ := Option.map_eq_some_iff.mp hx
      refine ⟨rfl, yes_then ⟨.int m, rfl, .int m, rfl, le2, fun t nt => ?_⟩⟩
      have st := same_upd (o := .tup [.int m, .int m]) nt
      have ntD : t ≠ D2 := (ne_of_none hrs6 nt).symm
      have hl6 : rs6.length ≤ 1000 := by
        rw [hT6.length, List.length_take]
        have : ((dueV u v).map fun n => (n, n)).length = 5 := rfl
        omega
      refine ⟨rs6, st _ _ hrs6, small1000 hl6, ?_, rs6 ++ [.ref t], upd_same, ?_⟩
      · intro b' o nb e
        rw [upd_ne nb]
        exact st _ _ (off b' o nb e)
      · have hm2 : ((dueV u v).map fun n => (n, n))[i]? = some (m, m) := by
          rw [List.getElem?_map, hm]
          rfl
        rw [List.take_add_one, hm2]
        refine TupAll.snoc (hT6.mono fun z us e => ?_) ⟨t, rfl, ?_⟩
        · rw [upd_ne (ne_of e hrs6 fun z => by cases z)]
          exact st _ _ e
        · rw [upd_ne ntD, upd_same]
    · intro H6 hm
      obtain ⟨sm, due⟩ := made_end (show 5 = ((dueV u v).map fun n => (n, n)).length from rfl) nD2 hm
      refine ⟨D2, _, rfl, due.dp, w1, w2, w3, rfl, ?_⟩
      rw [decide_eq_true rfl]
      exact q _ (S3.trans (st1.trans (st2.trans (s5.trans sm))))
end
end K3

namespace K3
open PySem PySem.Spec PyProof.Rows L2 GR
theorem Due.keep {d c p : Addr} {H H' : Hp} {N : Int} {ds : List (Int × Int)} (h : Due H p ds) (s : Keep d c H H') (D : Deck H d c N) (h1 : p ≠ d) (h2 : p ≠ c) : Due H' p ds := by
  obtain ⟨rs, e, t⟩ := h
  exact ⟨rs, s _ _ h1 h2 e, t.mono fun q us z => s.tup D z⟩
theorem lessS_no {a b c d : Int} (h : ¬ b < c) : PyData.eqv (td (lessS a b c d)) (td (1, 1)) = false := by
  unfold lessS
  rw [if_neg h]
  split <;> simp [td, PyData.eqv, PyData.eqvAll]
section
variable {P : Program} {w : World} {K : PySem.W.Frag} {mg : Str → Option Value} {base : Heap}
abbrev s_law_right : Stmt := topS 21
abbrev N_right : List Str := ["_law_deck_here", "_law_one", "_law_other", "_law_spans", "_law_a", "_law_b", "_law_inner", "_law_turned", "_law_k"]
theorem sc_law_right : FnScope N_right ["_law_deck_here", "_law_one", "_law_other"] (defScope s_law_right) := ⟨rfl, rfl, rfl, by decide +kernel, rfl, by decide +kernel, by decide +kernel⟩
def sp_right : Sp := fun vs H Q _ => ∃ (dk ck x y : Addr) (N a b c d : Int), vs = [.ref dk, .ref x, .ref y] ∧ Deck H dk ck N ∧ N < 2 ^ 40 ∧ H x = some (.tup [.int a, .int b]) ∧ H y = some (.tup [.int c, .int d]) ∧ a ≤ b ∧ c ≤ d ∧ (-LIM ≤ a ∧ b ≤ LIM) ∧ (-LIM ≤ c ∧ d ≤ LIM) ∧
  ∀ H', Keep dk ck H H' → Deck H' dk ck (N + 8) → Q (.bl true) H'
theorem ok_right {f f_law_five f_law_between f_law_pair_right f_law_part fhull fminus fplus ftimes fless : Addr} {fd d_law_five d_law_between d_law_pair_right d_law_part dhull dminus dplus dtimes dless : FuncData} {k : Nat} (F : Fun K "_law_right" "_law_right" s_law_right f fd)
    (G_law_five : FnOk P w K mg base CX0 k f_law_five d_law_five ["_law_one", "_law_other"] (sp_due K LIM)) (g_law_five : mg "_law_five" = some (.ref f_law_five)) (K_law_five : PySem.W.keepIn K (.ref f_law_five) = true) (b_law_five : Binds K d_law_five ["_law_one", "_law_other"] [])
    (G_law_between : FnOk P w K mg base CX0 k f_law_between d_law_between ["_law_deck_here", "_law_span"] (sp_between K)) (g_law_between : mg "_law_between" = some (.ref f_law_between)) (K_law_between : PySem.W.keepIn K (.ref f_law_between) = true) (b_law_between : Binds K d_law_between ["_law_deck_here", "_law_span"] [])
    (G_law_pair_right : FnG P w K mg base CX0 k f_law_pair_right d_law_pair_right ["_law_spans", "_law_a", "_law_b"] sp_pair_right) (g_law_pair_right : mg "_law_pair_right" = some (.ref f_law_pair_right)) (K_law_pair_right : PySem.W.keepIn K (.ref f_law_pair_right) = true) (b_law_pair_right : Binds K d_law_pair_right ["_law_spans", "_law_a", "_law_b"] [])
    (G_law_part : FnOk P w K mg base CX0 k f_law_part d_law_part ["_law_deck_here", "_law_span"] sp_part) (g_law_part : mg "_law_part" = some (.ref f_law_part)) (K_law_part : PySem.W.keepIn K (.ref f_law_part) = true) (b_law_part : Binds K d_law_part ["_law_deck_here", "_law_span"] [])
    (Ghull : FnOk P w K mg base CX0 k fhull dhull ["one", "other"] (spTwo K fun a b c d => (minI a c, maxI b d))) (ghull : mg "hull" = some (.ref fhull)) (Khull : PySem.W.keepIn K (.ref fhull) = true) (bhull : Binds K dhull ["one", "other"] [])
    (Gplus : FnOk P w K mg base CX0 k fplus dplus ["one", "other"] (spTwo K fun a b c d => (clipI (a + c), clipI (b + d)))) (gplus : mg "plus" = some (.ref fplus)) (Kplus : PySem.W.keepIn K (.ref fplus) = true) (bplus : Binds K dplus ["one", "other"] [])
    (Gminus : FnOk P w K mg base CX0 k fminus dminus ["one", "other"] (spTwo K fun a b c d => (clipI (a - d), clipI (b - c)))) (gminus : mg "minus" = some (.ref fminus)) (Kminus : PySem.W.keepIn K (.ref fminus) = true) (bminus : Binds K dminus ["one", "other"] [])
    (Gtimes : FnOk P w K mg base CX0 k ftimes dtimes ["one", "other"] (spTwo K fun a b c d => (clipI (lo4 a b c d), clipI (hi4 a b c d)))) (gtimes : mg "times" = some (.ref ftimes)) (Ktimes : PySem.W.keepIn K (.ref ftimes) = true) (btimes : Binds K dtimes ["one", "other"] [])
    (Gless : FnOk P w K mg base CX0 k fless dless ["one", "other"] (spTwo K lessS)) (gless : mg "less" = some (.ref fless)) (Kless : PySem.W.keepIn K (.ref fless) = true) (bless : Binds K dless ["one", "other"] [])
    (mrange : mg "range" = none) : FnG P w K mg base CX0 (k + 1) f fd ["_law_deck_here", "_law_one", "_law_other"] sp_right := by
  have nd := sc_law_right.nd
  refine ok_g F sc_law_right (fun vs H Q E h => ?_) (fun cdv A outer s H vs Q E hg hr h => ?_)
  · obtain ⟨dk, ck, x, y, N, a, b, c, d, rfl, _⟩ := h
    rfl
  obtain ⟨dk, ck, x, y, N, a, b, c, d, rfl, D, hN, hx, hy, hab, hcd, hB, hB2, q⟩ := h
  have hL : LIM = 1000000000000000000 := rfl
  refine ⟨_, (pss_cons (ps_set (i := 3) nd rfl (.inr rfl) (pe_call G_law_five hr (by rfl) g_law_five K_law_five b_law_five .nil pass0 (pa_cons (pv 1) (pa_cons (pv 2) pa_nil))))
      (pss_cons (ps_for PassesOwn.never rfl (pi_tup (pe_tup (pa_cons (pe_ix ix_tup (pv 1) pe_int (fun _ _ => rfl)) (pa_cons (pe_ix ix_tup (pv 1) pe_int (fun _ _ => rfl)) (pa_cons (pe_call G_law_between hr (by rfl) g_law_between K_law_between b_law_between .nil pass0 (pa_cons (pv 0) (pa_cons (pv 1) pa_nil))) pa_nil))))) (pg_name (i := 4) nd rfl (Or.inl rfl))
      (pss_one (ps_for PassesOwn.never rfl (pi_tup (pe_tup (pa_cons (pe_ix ix_tup (pv 2) pe_int (fun _ _ => rfl)) (pa_cons (pe_ix ix_tup (pv 2) pe_int (fun _ _ => rfl)) (pa_cons (pe_call G_law_between hr (by rfl) g_law_between K_law_between b_law_between .nil pass0 (pa_cons (pv 0) (pa_cons (pv 2) pa_nil))) pa_nil))))) (pg_name (i := 5) nd rfl (Or.inl rfl))
        (pss_one (ps_if (pt_not (pt_val (pe_callG G_law_pair_right hg hr (by rfl) g_law_pair_right K_law_pair_right b_law_pair_right pass0 (pa_cons (pv 3) (pa_cons (pv 4) (pa_cons (pv 5) pa_nil))))))
          (pss_one (ps_ret pe_bl))
          pss_nil)))))
      (pss_cons (ps_set (i := 6) nd rfl (.inr rfl) (pe_call G_law_five hr (by rfl) g_law_five K_law_five b_law_five .nil pass0 (pa_cons (pe_call G_law_part hr (by rfl) g_law_part K_law_part b_law_part .nil pass0 (pa_cons (pv 0) (pa_cons (pv 1) pa_nil))) (pa_cons (pe_call G_law_part hr (by rfl) g_law_part K_law_part b_law_part .nil pass0 (pa_cons (pv 0) (pa_cons (pv 2) pa_nil))) pa_nil))))
      (pss_cons (ps_if (pt_cmpR (op_neD hr.units) (pe_lc (own := [("_law_k", 8)]) rfl nd (pi_range1 rfl mrange (pa_cons pe_int pa_nil)) (blkOk_by (N := N_right) (sc := defScope s_law_right) (by decide +kernel)) (fun _ _ _ _ _ => (pg_name (i := 8) nd rfl (Or.inl rfl)))
          (tt := tTest (tOp (rNeD K) (tCall (spTwo K fun a b c d => (minI a c, maxI b d)) [] E0 (tCons (tOp (rIxL K) (tVar 3) (tVar 8)) (tCons (tOp (rIxL K) (tVar 6) (tVar 8)) tNil))) (tOp (rIxL K) (tVar 3) (tVar 8))))
          (fun _ _ _ _ _ => (pts_one (pt_cmpR (op_neD hr.units) (pe_call Ghull hr (by rfl) ghull Khull bhull .nil pass0 (pa_cons (pe_ix ix_list (pv 3) (pv 8) (fun _ _ => rfl)) (pa_cons (pe_ix ix_list (pv 6) (pv 8) (fun _ _ => rfl)) pa_nil))) (pe_ix ix_list (pv 3) (pv 8) (fun _ _ => rfl)) (nomark _)))) (fun _ _ _ _ _ => (pv 8))) (pe_lst pa_nil) (nomark _))
      (pss_one (ps_ret pe_bl))
      pss_nil)
      (pss_cons (ps_set (i := 7) nd rfl (.inl rfl) (pe_tup (pa_cons (pe_op op_sub pe_int (pe_ix ix_tup (pv 2) pe_int (fun _ _ => rfl))) (pa_cons (pe_op op_sub pe_int (pe_ix ix_tup (pv 2) pe_int (fun _ _ => rfl))) pa_nil))))
      (pss_cons (ps_if (PW.pt (pw_or (pt_cmpR (op_neD hr.units) (pe_call Gminus hr (by rfl) gminus Kminus bminus .nil pass0 (pa_cons (pv 1) (pa_cons (pv 2) pa_nil))) (pe_call Gplus hr (by rfl) gplus Kplus bplus .nil pass0 (pa_cons (pv 1) (pa_cons (pv 7) pa_nil))) (nomark _)) (pw_or1 (pt_cmpR (op_neD hr.units) (pe_call Gtimes hr (by rfl) gtimes Ktimes btimes .nil pass0 (pa_cons (pv 1) (pa_cons (pv 2) pa_nil))) (pe_call Gtimes hr (by rfl) gtimes Ktimes btimes .nil pass0 (pa_cons (pv 2) (pa_cons (pv 1) pa_nil))) (nomark _)))))
      (pss_one (ps_ret pe_bl))
      pss_nil)
      (pss_one (ps_ret (pe_or (pe_cmpR (op_neD hr.units) (pe_call Gless hr (by rfl) gless Kless bless .nil pass0 (pa_cons (pv 1) (pa_cons (pv 2) pa_nil))) (pe_tup (pa_cons pe_int (pa_cons pe_int pa_nil))) (nomark _)) (pe_one (pe_cmpR (op_eqD hr.units) (pe_call Gless hr (by rfl) gless Kless bless .nil pass0 (pa_cons (pv 2) (pa_cons (pv 1) pa_nil))) (pe_tup (pa_cons pe_int (pa_cons pe_int pa_nil))) (nomark _)))))))))))), ?_⟩
  -- spans = five(one, other)
  refine ⟨.ref x, rfl, .ref y, rfl, x, y, a, b, c, d, rfl, .inl (.inl hx), .inl (.inl hy), hab, hcd, hB, hB2, fun H1 sp s1 n1 d1 => ?_⟩
  have D1 := D.same s1
  have nsp := D.new n1
  have hx1 := s1 _ _ hx
  have hy1 := s1 _ _ hy
  refine ⟨.ref x, rfl, x, _, 0, _, rfl, rfl, .inl (.inl hx1), at0, .ref x, rfl, x, _, 1, _, rfl, rfl, .inl (.inl hx1), at1, .ref dk, rfl, .ref x, rfl, dk, ck, x, N, a, b, rfl, D1, by omega, .inl (.inl hx1), hab, hB, fun H2 e2 k2 D2 e2a e2b => ?_⟩
  refine ⟨small_le (show 3 ≤ 1000 by decide), fun t nt => ?_⟩
  have st := same_upd (o := .tup [.int a, .int b, .int e2]) nt
  have ht : upd H2 t (.tup [.int a, .int b, .int e2]) t = some (.tup [.int a, .int b, .int e2]) := upd_same
  have kt := k2.trans (Keep.of st)
  refine ⟨t, rfl, ⟨_, .inl (.inl ht)⟩, ?_⟩
  refine for_tup (xs := [.int a, .int b, .int e2]) (fun i σ H' => ∃ ya yb, σ = [some (.ref dk), some (.ref x), some (.ref y), some (.ref sp), ya, yb, none, none, none] ∧ Keep dk ck H1 H' ∧ Keep dk ck (upd H2 t (.tup [.int a, .int b, .int e2])) H' ∧ Deck H' dk ck (N + 1 + (i : Int))) ?_ ?_ ?_ ?_
  · refine ⟨none, none, rfl, kt, Keep.refl, ?_⟩
    have := D2.same st
    exact this.mono (by omega)
  · rintro i σ H' _ ⟨ya, yb, rfl, _, kp, _⟩
    exact .inl (.inl (kp.tup (D2.same st) ht))
  · rintro i u σ H3 hu ⟨ya, yb, rfl, k3, kp3, D3⟩
    have hi3 : i < 3 := (List.getElem?_eq_some_iff.mp hu).1
    obtain ⟨uu, rfl, hua, hub⟩ : ∃ uu, u = .int uu ∧ a ≤ uu ∧ uu ≤ b := by
      have := List.mem_of_getElem? hu
      simp only [List.mem_cons, List.not_mem_nil, or_false] at this
      rcases this with rfl | rfl | rfl
      · exact ⟨_, rfl, Int.le_refl _, hab⟩
      · exact ⟨_, rfl, hab, Int.le_refl _⟩
      · exact ⟨_, rfl, e2a, e2b⟩
    have hy3 := k3.tup D1 hy1
    refine ⟨.ref y, rfl, y, _, 0, _, rfl, rfl, .inl (.inl hy3), at0, .ref y, rfl, y, _, 1, _, rfl, rfl, .inl (.inl hy3), at1, .ref dk, rfl, .ref y, rfl, dk, ck, y, _, c, d, rfl, D3, by omega, .inl (.inl hy3), hcd, hB2, fun H4 e4 k4 D4 e4a e4b => ?_⟩
    refine ⟨small_le (show 3 ≤ 1000 by decide), fun t2 nt2 => ?_⟩
    have st2 := same_upd (o := .tup [.int c, .int d, .int e4]) nt2
    have ht2 : upd H4 t2 (.tup [.int c, .int d, .int e4]) t2 = some (.tup [.int c, .int d, .int e4]) := upd_same
    refine ⟨t2, rfl, ⟨_, .inl (.inl ht2)⟩, ?_⟩
    refine for_tup (xs := [.int c, .int d, .int e4]) (fun j σ H' => ∃ yb, σ = [some (.ref dk), some (.ref x), some (.ref y), some (.ref sp), some (.int uu), yb, none, none, none] ∧ Same (upd H4 t2 (.tup [.int c, .int d, .int e4])) H') ?_ ?_ ?_ ?_
    · exact ⟨yb, rfl, Same.refl _⟩
    · rintro j σ H' _ ⟨yb', rfl, sj⟩
      exact .inl (.inl (sj _ _ ht2))
    · rintro j v σ H5 hv ⟨yb', rfl, sj⟩
      obtain ⟨vv, rfl, hva, hvb⟩ : ∃ vv, v = .int vv ∧ c ≤ vv ∧ vv ≤ d := by
        have := List.mem_of_getElem? hv
        simp only [List.mem_cons, List.not_mem_nil, or_false] at this
        rcases this with rfl | rfl | rfl
        · exact ⟨_, rfl, Int.le_refl _, hcd⟩
        · exact ⟨_, rfl, hcd, Int.le_refl _⟩
        · exact ⟨_, rfl, e4a, e4b⟩
      have d5 : Due H5 sp (toldD a b c d) := ((d1.keep (k3.trans k4) D1 nsp.1 nsp.2).same st2).same sj
      refine ⟨.ref sp, rfl, .int uu, rfl, .int vv, rfl, sp, a, b, c, d, uu, vv, rfl, d5, ⟨hua, hub⟩, ⟨hva, hvb⟩, hB, hB2, fun H6 s6 => ⟨_, rfl, iteF ?_⟩⟩
      exact ⟨_, rfl, sj.trans s6⟩
    · rintro σ H5 ⟨yb', rfl, sj⟩
      have kk := k4.trans (Keep.of (st2.trans sj))
      exact ⟨_, _, rfl, k3.trans kk, kp3.trans kk, ((D4.same st2).same sj).mono (by omega)⟩
  · rintro σ H3 ⟨ya, yb, rfl, k3, kp3, D3⟩
    have D3 : Deck H3 dk ck (N + 4) := D3.mono (by show N + 1 + ((3 : Nat) : Int) ≤ N + 4; omega)
    have hx3 := k3.tup D1 hx1
    have hy3 := k3.tup D1 hy1
    -- inner = five(part(one), part(other))
    refine ⟨.ref dk, rfl, .ref x, rfl, dk, ck, x, N + 4, a, b, rfl, D3, by omega, hx3, hab, hB, fun H4 p1 lo1 hi1 k4 D4 h4 a1 a2 a3 => ?_⟩
    refine ⟨.ref dk, rfl, .ref y, rfl, dk, ck, y, _, c, d, rfl, D4, by omega, k4.tup D3 hy3, hcd, hB2, fun H5 p2 lo2 hi2 k5 D5 h5 b1 b2 b3 => ?_⟩
    have h45 := k5.tup D4 h4
    refine ⟨p1, p2, lo1, hi1, lo2, hi2, rfl, .inl (.inl h45), .inl (.inl h5), a1, b1, by omega, by omega, fun H6 sp2 s6 n6 d6 => ?_⟩
    have D6 := D5.same s6
    have k6 : Keep dk ck H1 H6 := (k3.trans (k4.trans k5)).trans (Keep.of s6)
    have d16 := d1.keep k6 D1 nsp.1 nsp.2
    have hwith := told_within (a := a) (b := b) (c := c) (d := d) (a' := lo1) (b' := hi1) (c' := lo2) (d' := hi2) ⟨a2, a1, a3⟩ ⟨b2, b1, b3⟩
    obtain ⟨rs, hrs, hT⟩ := d16
    obtain ⟨rs2, hrs2, hT2⟩ := d6
    have hT5 : rs.length = 5 := hT.length
    have hT25 : rs2.length = 5 := hT2.length
    have lim1 := lim_told a b c d
    refine ⟨5, rfl, by decide, by decide, fun Dn nD => ?_⟩
    have nsD : sp ≠ Dn := ne_of_none hrs nD
    have nsD2 : sp2 ≠ Dn := ne_of_none hrs2 nD
    refine lc_range (n := 5) (fun i H' => Bare Dn H6 H') bare_start ?_ ?_
    · intro i H' hi hb
      obtain ⟨r, hr', -⟩ : ∃ r, (toldD a b c d)[i]? = some r ∧ True := ⟨(toldD a b c d)[i]'hi, List.getElem?_eq_getElem hi, trivial⟩
      obtain ⟨r2, hr2, hsub⟩ := Paired.at hwith hr'
      have hri : rs[i]? = some (rs[i]'(by omega)) := List.getElem?_eq_getElem (by omega)
      have hri2 : rs2[i]? = some (rs2[i]'(by omega)) := List.getElem?_eq_getElem (by omega)
      obtain ⟨r', hr1', q1, e1, h1⟩ := Paired.at hT hri
      obtain ⟨r2', hr2', q2, e2', h2⟩ := Paired.at hT2 hri2
      rw [hr'] at hr1'
      cases hr1'
      rw [hr2] at hr2'
      cases hr2'
      have hq1 := hb.1 _ _ (ne_of_none h1 nD) h1
      have hq2 := hb.1 _ _ (ne_of_none h2 nD) h2
      have lr := lim1 r (List.mem_of_getElem? hr')
      have lr1 := lr.1.1
      have lr2 := lr.1.2
      have lr3 := lr.2.1
      have lr4 := lr.2.2
      refine ⟨rfl, .ref sp, rfl, .int (0 + (i : Int)), rfl, sp, rs, 0 + (i : Int), .ref q1, rfl, rfl, .inl (.inl (hb.1 _ _ nsD hrs)), at_of (j := i) (by omega) (by rw [hri, e1]), .ref sp2, rfl, .int (0 + (i : Int)), rfl, sp2, rs2, 0 + (i : Int), .ref q2, rfl, rfl, .inl (.inl (hb.1 _ _ nsD2 hrs2)), at_of (j := i) (by omega) (by rw [hri2, e2']),
        q1, q2, r.1, r.2, r2.1, r2.2, rfl, .inl (.inl hq1), .inl (.inl hq2), by omega, by omega, fun H7 p7 s7 n7 h7 => ?_⟩
      have h7 : H7 p7 = some (.tup [.int (minI r.1 r2.1, maxI r.2 r2.2).1, .int (minI r.1 r2.1, maxI r.2 r2.2).2]) := h7
      rw [hull_sub hsub] at h7
      have hb7 := bare_grow hb s7
      refine ⟨.ref sp, rfl, .int (0 + (i : Int)), rfl, sp, rs, 0 + (i : Int), .ref q1, rfl, rfl, .inl (.inl (hb7.1 _ _ nsD hrs)), at_of (j := i) (by omega) (by rw [hri, e1]), _, _, dp_pair h7, dp_pair (s7 _ _ hq1), shaped_td r, shaped_td r, _, rfl, ?_⟩
      rw [eqv_td]
      exact iteF hb7
    · intro H7 hb
      have s7 := bare_same nD hb
      refine ⟨Nat.zero_le _, fun e ne => ?_⟩
      have s8 := same_upd (o := .lst []) ne
      refine ⟨_, _, .lst (.inl (.inl (s8 _ _ hb.2))) .nil, .lst (.inl (.inl upd_same)) .nil, shaped_ints [], shaped_ints [], _, rfl, ?_⟩
      refine iteF ?_
      have k8 : Keep dk ck H1 (upd H7 e (.lst [])) := k6.trans (Keep.of (s7.trans s8))
      have D8 := D6.same (s7.trans s8)
      have hx8 := k8.tup D1 hx1
      have hy8 := k8.tup D1 hy1
      refine ⟨.ref y, rfl, y, _, 1, _, rfl, rfl, .inl (.inl hy8), at1, 0, d, rfl, rfl, .ref y, rfl, y, _, 0, _, rfl, rfl, .inl (.inl hy8), at0, 0, c, rfl, rfl, le2, fun tu ntu => ?_⟩
      have s9 : Same (upd H7 e (.lst [])) (upd (upd H7 e (.lst [])) tu (.tup [.int (0 - d), .int (0 - c)])) := same_upd ntu
      have hx9 := s9 _ _ hx8
      have hy9 := s9 _ _ hy8
      have ba : -(2 ^ 64) < a ∧ a < 2 ^ 64 := by omega
      have bb : -(2 ^ 64) < b ∧ b < 2 ^ 64 := by omega
      have bc : -(2 ^ 64) < c ∧ c < 2 ^ 64 := by omega
      have bd : -(2 ^ 64) < d ∧ d < 2 ^ 64 := by omega
      refine ⟨.ref x, rfl, .ref y, rfl, x, y, a, b, c, d, rfl, .inl (.inl hx9), .inl (.inl hy9), ba, bb, fun H10 p10 s10 n10 h10 => ?_⟩
      refine ⟨.ref x, rfl, .ref tu, rfl, x, tu, a, b, 0 - d, 0 - c, rfl, .inl (.inl (s10 _ _ hx9)), .inl (.inl (s10 _ _ upd_same)), ba, bb, fun H11 p11 s11 n11 h11 => ?_⟩
      have h11 : H11 p11 = some (.tup [.int (clipI (a + (0 - d))), .int (clipI (b + (0 - c)))]) := h11
      rw [show a + (0 - d) = a - d by omega, show b + (0 - c) = b - c by omega] at h11
      refine ⟨_, _, dp_pair (d := (clipI (a - d), clipI (b - c))) (s11 _ _ h10), dp_pair (d := (clipI (a - d), clipI (b - c))) h11, shaped_td _, shaped_td _, _, rfl, ?_⟩
      rw [eqv_td]
      refine iteF ?_
      have S11 := s9.trans (s10.trans s11)
      refine ⟨.ref x, rfl, .ref y, rfl, x, y, a, b, c, d, rfl, .inl (.inl (S11 _ _ hx8)), .inl (.inl (S11 _ _ hy8)), ba, bb, fun H12 p12 s12 n12 h12 => ?_⟩
      refine ⟨.ref y, rfl, .ref x, rfl, y, x, c, d, a, b, rfl, .inl (.inl (s12 _ _ (S11 _ _ hy8))), .inl (.inl (s12 _ _ (S11 _ _ hx8))), bc, bd, fun H13 p13 s13 n13 h13 => ?_⟩
      have e1 : lo4 c d a b = lo4 a b c d := by
        unfold lo4
        rw [Int.mul_comm c a, Int.mul_comm c b, Int.mul_comm d a, Int.mul_comm d b]
        omega
      have e2 : hi4 c d a b = hi4 a b c d := by
        unfold hi4
        rw [Int.mul_comm c a, Int.mul_comm c b, Int.mul_comm d a, Int.mul_comm d b]
        omega
      have h13 : H13 p13 = some (.tup [.int (clipI (lo4 c d a b)), .int (clipI (hi4 c d a b))]) := h13
      rw [e1, e2] at h13
      refine ⟨_, _, dp_pair (d := (clipI (lo4 a b c d), clipI (hi4 a b c d))) (s13 _ _ h12), dp_pair (d := (clipI (lo4 a b c d), clipI (hi4 a b c d))) h13, shaped_td _, shaped_td _, _, rfl, ?_⟩
      rw [eqv_td]
      refine iteF ?_
      have S13 := S11.trans (s12.trans s13)
      refine ⟨.ref x, rfl, .ref y, rfl, x, y, a, b, c, d, rfl, .inl (.inl (S13 _ _ hx8)), .inl (.inl (S13 _ _ hy8)), ba, bb, fun H14 p14 s14 n14 h14 => ?_⟩
      refine ⟨le2, fun u15 n15 => ?_⟩
      have s15 := same_upd (o := .tup [.int 1, .int 1]) n15
      have S15 := S13.trans (s14.trans s15)
      refine ⟨_, _, dp_pair (s15 _ _ h14), dp_pair (d := (1, 1)) upd_same, shaped_td _, shaped_td _, _, rfl, ?_⟩
      by_cases e : b < c
      · have el : lessS a b c d = (1, 1) := by
          unfold lessS
          rw [if_pos e]
        rw [el, eqv_td]
        refine iteF ?_
        refine ⟨.ref y, rfl, .ref x, rfl, y, x, c, d, a, b, rfl, .inl (.inl (S15 _ _ hy8)), .inl (.inl (S15 _ _ hx8)), bc, bd, fun H16 p16 s16 n16 h16 => ?_⟩
        refine ⟨le2, fun u17 n17 => ?_⟩
        have s17 := same_upd (o := .tup [.int 0, .int 0]) n17
        have el2 : lessS c d a b = (0, 0) := by
          unfold lessS
          rw [if_neg (by omega), if_pos (by omega)]
        rw [el2] at h16
        refine ⟨_, _, dp_pair (s17 _ _ h16), dp_pair (d := (0, 0)) upd_same, shaped_td _, shaped_td _, ?_⟩
        rw [eqv_td]
        have SS := S15.trans (s16.trans s17)
        exact q _ ((Keep.of s1).trans (k8.trans (Keep.of SS))) ((D8.same SS).mono (by omega))
      · rw [lessS_no e]
        refine iteT ?_
        exact q _ ((Keep.of s1).trans (k8.trans (Keep.of S15))) ((D8.same S15).mono (by omega))
end
end K3

namespace K3
open PySem PySem.Spec PyProof.Rows L2 GR
theorem two_sorted {ns : List Int} {e1 e2 : Int} (hperm : ns.Perm [e1, e2]) (hord : ns.Pairwise (· ≤ ·)) (b1 : -LIM ≤ e1 ∧ e1 ≤ LIM) (b2 : -LIM ≤ e2 ∧ e2 ≤ LIM) : ∃ u v, ns = [u, v] ∧ u ≤ v ∧ -LIM ≤ u ∧ v ≤ LIM := by
  obtain ⟨u, v, rfl⟩ : ∃ x y, ns = [x, y] := by
    have hl := hperm.length_eq
    match ns, hl with
    | [x, y], _ => exact ⟨x, y, rfl⟩
  have hxy : u ≤ v := by simpa using hord
  have hu : u = e1 ∨ u = e2 := by simpa using hperm.subset (show u ∈ [u, v] by simp)
  have hv : v = e1 ∨ v = e2 := by simpa using hperm.subset (show v ∈ [u, v] by simp)
  exact ⟨u, v, rfl, hxy, by omega, by omega⟩
section
variable {P : Program} {w : World} {K : PySem.W.Frag} {mg : Str → Option Value} {base : Heap}
abbrev s_law : Stmt := topS 22
theorem sc_law : FnScope ["_law_script", "_law_deck_here", "_law_turn", "_law_ends", "_law_others"] ["_law_script"] (defScope s_law) := ⟨rfl, rfl, rfl, by decide +kernel, rfl, by decide +kernel, by decide +kernel⟩
def sp_law (K : PySem.W.Frag) : Sp := fun vs H Q _ => ∃ (a : Addr) (ns : List Int), vs = [.ref a] ∧ SqL K H a (ns.map V.int) ∧ ∀ H', Q (.bl true) H'
theorem ok_law {f f_deck f_value f_number f_clip_right f_right : Addr} {fd d_deck d_value d_number d_clip_right d_right : FuncData} {k : Nat} (F : Fun K "law" "law" s_law f fd)
    (G_law_deck : FnOk P w K mg base CX0 k f_deck d_deck ["_law_script"] (sp_deck K)) (g_law_deck : mg "_law_deck" = some (.ref f_deck)) (K_law_deck : PySem.W.keepIn K (.ref f_deck) = true) (b_law_deck : Binds K d_deck ["_law_script"] [])
    (G_law_value : FnOk P w K mg base CX0 k f_value d_value ["_law_deck_here"] (sp_int 3 LIM)) (g_law_value : mg "_law_value" = some (.ref f_value)) (K_law_value : PySem.W.keepIn K (.ref f_value) = true) (b_law_value : Binds K d_value ["_law_deck_here"] [])
    (G_law_number : FnOk P w K mg base CX0 k f_number d_number ["_law_deck_here"] (sp_int 4 BIG)) (g_law_number : mg "_law_number" = some (.ref f_number)) (K_law_number : PySem.W.keepIn K (.ref f_number) = true) (b_law_number : Binds K d_number ["_law_deck_here"] [])
    (G_law_clip_right : FnG P w K mg base CX0 k f_clip_right d_clip_right ["_law_number_here"] sp_clip_right) (g_law_clip_right : mg "_law_clip_right" = some (.ref f_clip_right)) (K_law_clip_right : PySem.W.keepIn K (.ref f_clip_right) = true) (b_law_clip_right : Binds K d_clip_right ["_law_number_here"] [])
    (G_law_right : FnG P w K mg base CX0 k f_right d_right ["_law_deck_here", "_law_one", "_law_other"] sp_right) (g_law_right : mg "_law_right" = some (.ref f_right)) (K_law_right : PySem.W.keepIn K (.ref f_right) = true) (b_law_right : Binds K d_right ["_law_deck_here", "_law_one", "_law_other"] [])
    (mrange : mg "range" = none) (msorted : mg "sorted" = none) (mtuple : mg "tuple" = none) : FnG P w K mg base CX0 (k + 1) f fd ["_law_script"] (sp_law K) := by
  have nd := sc_law.nd
  refine ok_g F sc_law (fun vs H Q E h => ?_) (fun cdv A outer s H vs Q E hg hr h => ?_)
  · obtain ⟨a, ns, rfl, _⟩ := h
    rfl
  obtain ⟨a, ns, rfl, hS, q⟩ := h
  refine ⟨_, (pss_cons (ps_set (i := 1) nd rfl (.inl rfl) (pe_call G_law_deck hr (by rfl) g_law_deck K_law_deck b_law_deck .nil pass0 (pa_cons (pv 0) pa_nil)))
      (pss_cons (ps_for PassesOwn.never rfl (pi_range1 rfl mrange (pa_cons pe_int pa_nil)) (pg_name (i := 2) nd rfl (Or.inl rfl))
      (pss_cons (ps_set (i := 3) nd rfl (.inl rfl) (pe_callB cr_sorted (by rfl) msorted boot_sorted (pa_cons (pe_lst (pa_cons (pe_call G_law_value hr (by rfl) g_law_value K_law_value b_law_value .nil pass0 (pa_cons (pv 1) pa_nil)) (pa_cons (pe_call G_law_value hr (by rfl) g_law_value K_law_value b_law_value .nil pass0 (pa_cons (pv 1) pa_nil)) pa_nil))) pa_nil)))
        (pss_cons (ps_set (i := 4) nd rfl (.inl rfl) (pe_callB cr_sorted (by rfl) msorted boot_sorted (pa_cons (pe_lst (pa_cons (pe_call G_law_value hr (by rfl) g_law_value K_law_value b_law_value .nil pass0 (pa_cons (pv 1) pa_nil)) (pa_cons (pe_call G_law_value hr (by rfl) g_law_value K_law_value b_law_value .nil pass0 (pa_cons (pv 1) pa_nil)) pa_nil))) pa_nil)))
        (pss_one (ps_if (PW.pt (pw_or (pt_not (pt_val (pe_callG G_law_clip_right hg hr (by rfl) g_law_clip_right K_law_clip_right b_law_clip_right pass0 (pa_cons (pe_call G_law_number hr (by rfl) g_law_number K_law_number b_law_number .nil pass0 (pa_cons (pv 1) pa_nil)) pa_nil)))) (pw_or1 (pt_not (pt_val (pe_callG G_law_right hg hr (by rfl) g_law_right K_law_right b_law_right pass0 (pa_cons (pv 1) (pa_cons (pe_callTy call_tuple_of (by rfl) mtuple boot_tuple (pa_cons (pv 3) pa_nil)) (pa_cons (pe_callTy call_tuple_of (by rfl) mtuple boot_tuple (pa_cons (pv 4) pa_nil)) pa_nil)))))))))
        (pss_one (ps_ret pe_bl))
        pss_nil)))))
      (pss_one (ps_ret pe_bl)))), ?_⟩
  refine ⟨.ref a, rfl, a, ns, rfl, hS, fun H1 d c s1 n1 D1 => ?_⟩
  refine ⟨20, rfl, by decide, by decide, ?_⟩
  refine for_range (n := 20) (fun i σ H' => ∃ y2 y3 y4, σ = [some (.ref a), some (.ref d), y2, y3, y4] ∧ Deck H' d c (24 * (i : Int))) ?_ ?_ ?_
  · exact ⟨none, none, none, rfl, D1⟩
  · rintro i σ H2 hi ⟨y2, y3, y4, rfl, D2⟩
    -- ends, others
    refine ⟨.ref d, rfl, d, c, _, rfl, D2, by omega, fun H3 e1 k3 D3 a1 a2 => ?_⟩
    refine ⟨.ref d, rfl, d, c, _, rfl, D3, by omega, fun H4 e2 k4 D4 a3 a4 => ?_⟩
    refine ⟨le2, fun l1 nl1 => ⟨l1, [e1, e2], rfl, .inl (.inl upd_same), (show 2 < 64 by decide), fun ms p1 hp1 ho1 np1 => ?_⟩⟩
    obtain ⟨u1, v1, rfl, huv1, hu1, hv1⟩ := two_sorted hp1 ho1 ⟨a1, a2⟩ ⟨a3, a4⟩
    have sA := (same_upd (o := .lst [.int e1, .int e2]) nl1).trans (same_upd (o := .lst ([u1, v1].map V.int)) np1)
    have DA := D4.same sA
    have hA := (D4.same (same_upd (o := .lst [.int e1, .int e2]) nl1)).new np1
    refine ⟨.ref d, rfl, d, c, _, rfl, DA, by omega, fun H5 e3 k5 D5 b1 b2 => ?_⟩
    refine ⟨.ref d, rfl, d, c, _, rfl, D5, by omega, fun H6 e4 k6 D6 b3 b4 => ?_⟩
    refine ⟨le2, fun l2 nl2 => ⟨l2, [e3, e4], rfl, .inl (.inl upd_same), (show 2 < 64 by decide), fun ms p2 hp2 ho2 np2 => ?_⟩⟩
    obtain ⟨u2, v2, rfl, huv2, hu2, hv2⟩ := two_sorted hp2 ho2 ⟨b1, b2⟩ ⟨b3, b4⟩
    have sB := (same_upd (o := .lst [.int e3, .int e4]) nl2).trans (same_upd (o := .lst ([u2, v2].map V.int)) np2)
    have DB := D6.same sB
    have hB := (D6.same (same_upd (o := .lst [.int e3, .int e4]) nl2)).new np2
    have l1B := sB _ _ (k6 _ _ hA.1 hA.2 (k5 _ _ hA.1 hA.2 (show upd _ p1 (.lst ([u1, v1].map V.int)) p1 = _ from upd_same)))
    have l2B : upd (upd H6 l2 (.lst [.int e3, .int e4])) p2 (.lst ([u2, v2].map V.int)) p2 = some (.lst ([u2, v2].map V.int)) := upd_same
    refine ⟨.ref d, rfl, d, c, _, rfl, DB, by omega, fun H7 n7 k7 D7 c1 c2 => ?_⟩
    refine ⟨n7, rfl, fun H8 s8 => ⟨_, rfl, iteF ?_⟩⟩
    have D8 := D7.same s8
    have l18 := s8 _ _ (k7 _ _ hA.1 hA.2 l1B)
    have l28 := s8 _ _ (k7 _ _ hB.1 hB.2 l2B)
    refine ⟨.ref d, rfl, .ref p1, rfl, p1, _, rfl, .inl ⟨.inl (.inl l18), fun t1 nt1 => ?_⟩⟩
    have st1 := same_upd (o := .tup ([u1, v1].map V.int)) nt1
    refine ⟨.ref p2, rfl, p2, _, rfl, .inl ⟨.inl (.inl (st1 _ _ l28)), fun t2 nt2 => ?_⟩⟩
    have st2 := same_upd (o := .tup ([u2, v2].map V.int)) nt2
    have D9 := D8.same (st1.trans st2)
    refine ⟨d, c, t1, t2, _, u1, v1, u2, v2, rfl, D9, by omega, st2 _ _ upd_same, upd_same, huv1, huv2, ⟨hu1, hv1⟩, ⟨hu2, hv2⟩, fun H10 k10 D10 => ⟨_, rfl, iteF ?_⟩⟩
    exact ⟨_, _, _, rfl, D10.mono (by omega)⟩
  · rintro σ H2 _
    exact q H2
end
end K3

namespace K3
open PySem PySem.Spec PyProof.Rows L2 GR
/-- a def stands in the text's top -/
def Has (K : PySem.W.Frag) (x : Str) (st : Stmt) : Prop := ∃ (f : Addr) (fd : FuncData), PySem.W.nsIn K mainGlobals x = some (some (.ref f)) ∧ Fun K x x st f fd
theorem has_mk {K : PySem.W.Frag} {x : Str} {st : Stmt} {f : Addr} {oc : Value} {od an : Option Addr} {osl : Array (Option Value)} {kV doc pm cdv ct : Value} (a : PySem.W.nsIn K mainGlobals x = some (some (.ref f)))
    (l : K.lookup f = some ⟨oc, od, .func (PySem.W.fnOf x x (defArgs st) (defBody st) (defScope st) .none kV doc pm an cdv ct), osl⟩) (c : PySem.W.codeIn K cdv x = true) (k : PySem.W.keepIn K (.ref f) = true) : Has K x st := ⟨f, _, a, fun_mk l c k⟩
theorem FnG.mono {P : Program} {w : World} {K : PySem.W.Frag} {mg : Str → Option Value} {base : Heap} {CX : CXT} {j k : Nat} {f : Addr} {fd : FuncData} {ps : List Str} {sp : Sp} (F : FnG P w K mg base CX j f fd ps sp) (h : j ≤ k) : FnG P w K mg base CX k f fd ps sp :=
  ⟨F.size, fun A outer s H args us vs Q E hg hr => F.go A outer s H args us vs Q E hg (hr.mono h)⟩
theorem all_mk {P : Program} {w : World} {K : PySem.W.Frag} {h : Heap} {mg : Str → Option Value} {fa : Addr} (X : K.In h) (G : h.Ns mainGlobals mg) (hfa : mg "law" = some (.ref fa))
    (X_clip : Has K "clip" s_clip)
    (X_hull : Has K "hull" s_hull)
    (X_plus : Has K "plus" s_plus)
    (X_minus : Has K "minus" s_minus)
    (X_times : Has K "times" s_times)
    (X_less : Has K "less" s_less)
    (X_same : Has K "same" s_same)
    (X_law_deck : Has K "_law_deck" s_law_deck)
    (X_law_draw : Has K "_law_draw" s_law_draw)
    (X_law_pick : Has K "_law_pick" s_law_pick)
    (X_law_number : Has K "_law_number" s_law_number)
    (X_law_value : Has K "_law_value" s_law_value)
    (X_law_clip_right : Has K "_law_clip_right" s_law_clip_right)
    (X_law_between : Has K "_law_between" s_law_between)
    (X_law_part : Has K "_law_part" s_law_part)
    (X_law_five : Has K "_law_five" s_law_five)
    (X_law_holds : Has K "_law_holds" s_law_holds)
    (X_law_pair_right : Has K "_law_pair_right" s_law_pair_right)
    (X_law_right : Has K "_law_right" s_law_right)
    (X_law : Has K "law" s_law)
    (z_max : PySem.W.nsIn K mainGlobals "max" = some none) (z_min : PySem.W.nsIn K mainGlobals "min" = some none) (z_list : PySem.W.nsIn K mainGlobals "list" = some none) (z_sum : PySem.W.nsIn K mainGlobals "sum" = some none) (z_len : PySem.W.nsIn K mainGlobals "len" = some none) (z_sorted : PySem.W.nsIn K mainGlobals "sorted" = some none) (z_range : PySem.W.nsIn K mainGlobals "range" = some none) (z_int : PySem.W.nsIn K mainGlobals "int" = some none) (z_repr : PySem.W.nsIn K mainGlobals "repr" = some none) (z_tuple : PySem.W.nsIn K mainGlobals "tuple" = some none)
    {tk_LIMIT : Tok} (c_LIMIT : PySem.W.nsIn K mainGlobals "LIMIT" = some (some (.int LIM tk_LIMIT)))
    : ∃ fd : FuncData, (∀ (s : Shared) (v : Value), BindsTo s fd ⟨[v], []⟩ [("_law_script", v)]) ∧ ∀ base : Heap, K.In base → base.Ns mainGlobals mg → FnG P w K mg base CX0 6 fa fd ["_law_script"] (sp_law K) := by
  obtain ⟨fclip, dclip, aclip, Fclip⟩ := X_clip
  have gclip := PySem.W.mg_of X G aclip
  have bclip : Binds K dclip ["number"] [] := Fclip.binds (ps := ["number"]) fun _ _ _ _ _ _ us hl => match us, hl with | [_], _ => rfl
  obtain ⟨fhull, dhull, ahull, Fhull⟩ := X_hull
  have ghull := PySem.W.mg_of X G ahull
  have bhull : Binds K dhull ["one", "other"] [] := Fhull.binds (ps := ["one", "other"]) fun _ _ _ _ _ _ us hl => match us, hl with | [_, _], _ => rfl
  obtain ⟨fplus, dplus, aplus, Fplus⟩ := X_plus
  have gplus := PySem.W.mg_of X G aplus
  have bplus : Binds K dplus ["one", "other"] [] := Fplus.binds (ps := ["one", "other"]) fun _ _ _ _ _ _ us hl => match us, hl with | [_, _], _ => rfl
  obtain ⟨fminus, dminus, aminus, Fminus⟩ := X_minus
  have gminus := PySem.W.mg_of X G aminus
  have bminus : Binds K dminus ["one", "other"] [] := Fminus.binds (ps := ["one", "other"]) fun _ _ _ _ _ _ us hl => match us, hl with | [_, _], _ => rfl
  obtain ⟨ftimes, dtimes, atimes, Ftimes⟩ := X_times
  have gtimes := PySem.W.mg_of X G atimes
  have btimes : Binds K dtimes ["one", "other"] [] := Ftimes.binds (ps := ["one", "other"]) fun _ _ _ _ _ _ us hl => match us, hl with | [_, _], _ => rfl
  obtain ⟨fless, dless, aless, Fless⟩ := X_less
  have gless := PySem.W.mg_of X G aless
  have bless : Binds K dless ["one", "other"] [] := Fless.binds (ps := ["one", "other"]) fun _ _ _ _ _ _ us hl => match us, hl with | [_, _], _ => rfl
  obtain ⟨fsame, dsame, asame, Fsame⟩ := X_same
  have gsame := PySem.W.mg_of X G asame
  have bsame : Binds K dsame ["one", "other"] [] := Fsame.binds (ps := ["one", "other"]) fun _ _ _ _ _ _ us hl => match us, hl with | [_, _], _ => rfl
  obtain ⟨f_law_deck, d_law_deck, a_law_deck, F_law_deck⟩ := X_law_deck
  have g_law_deck := PySem.W.mg_of X G a_law_deck
  have b_law_deck : Binds K d_law_deck ["_law_script"] [] := F_law_deck.binds (ps := ["_law_script"]) fun _ _ _ _ _ _ us hl => match us, hl with | [_], _ => rfl
  obtain ⟨f_law_draw, d_law_draw, a_law_draw, F_law_draw⟩ := X_law_draw
  have g_law_draw := PySem.W.mg_of X G a_law_draw
  have b_law_draw : Binds K d_law_draw ["_law_deck_here", "_law_most"] [] := F_law_draw.binds (ps := ["_law_deck_here", "_law_most"]) fun _ _ _ _ _ _ us hl => match us, hl with | [_, _], _ => rfl
  obtain ⟨f_law_pick, d_law_pick, a_law_pick, F_law_pick⟩ := X_law_pick
  have g_law_pick := PySem.W.mg_of X G a_law_pick
  have b_law_pick : Binds K d_law_pick ["_law_deck_here", "_law_some"] [] := F_law_pick.binds (ps := ["_law_deck_here", "_law_some"]) fun _ _ _ _ _ _ us hl => match us, hl with | [_, _], _ => rfl
  obtain ⟨f_law_number, d_law_number, a_law_number, F_law_number⟩ := X_law_number
  have g_law_number := PySem.W.mg_of X G a_law_number
  have b_law_number : Binds K d_law_number ["_law_deck_here"] [] := F_law_number.binds (ps := ["_law_deck_here"]) fun _ _ _ _ _ _ us hl => match us, hl with | [_], _ => rfl
  obtain ⟨f_law_value, d_law_value, a_law_value, F_law_value⟩ := X_law_value
  have g_law_value := PySem.W.mg_of X G a_law_value
  have b_law_value : Binds K d_law_value ["_law_deck_here"] [] := F_law_value.binds (ps := ["_law_deck_here"]) fun _ _ _ _ _ _ us hl => match us, hl with | [_], _ => rfl
  obtain ⟨f_law_clip_right, d_law_clip_right, a_law_clip_right, F_law_clip_right⟩ := X_law_clip_right
  have g_law_clip_right := PySem.W.mg_of X G a_law_clip_right
  have b_law_clip_right : Binds K d_law_clip_right ["_law_number_here"] [] := F_law_clip_right.binds (ps := ["_law_number_here"]) fun _ _ _ _ _ _ us hl => match us, hl with | [_], _ => rfl
  obtain ⟨f_law_between, d_law_between, a_law_between, F_law_between⟩ := X_law_between
  have g_law_between := PySem.W.mg_of X G a_law_between
  have b_law_between : Binds K d_law_between ["_law_deck_here", "_law_span"] [] := F_law_between.binds (ps := ["_law_deck_here", "_law_span"]) fun _ _ _ _ _ _ us hl => match us, hl with | [_, _], _ => rfl
  obtain ⟨f_law_part, d_law_part, a_law_part, F_law_part⟩ := X_law_part
  have g_law_part := PySem.W.mg_of X G a_law_part
  have b_law_part : Binds K d_law_part ["_law_deck_here", "_law_span"] [] := F_law_part.binds (ps := ["_law_deck_here", "_law_span"]) fun _ _ _ _ _ _ us hl => match us, hl with | [_, _], _ => rfl
  obtain ⟨f_law_five, d_law_five, a_law_five, F_law_five⟩ := X_law_five
  have g_law_five := PySem.W.mg_of X G a_law_five
  have b_law_five : Binds K d_law_five ["_law_one", "_law_other"] [] := F_law_five.binds (ps := ["_law_one", "_law_other"]) fun _ _ _ _ _ _ us hl => match us, hl with | [_, _], _ => rfl
  obtain ⟨f_law_holds, d_law_holds, a_law_holds, F_law_holds⟩ := X_law_holds
  have g_law_holds := PySem.W.mg_of X G a_law_holds
  have b_law_holds : Binds K d_law_holds ["_law_span", "_law_value_here"] [] := F_law_holds.binds (ps := ["_law_span", "_law_value_here"]) fun _ _ _ _ _ _ us hl => match us, hl with | [_, _], _ => rfl
  obtain ⟨f_law_pair_right, d_law_pair_right, a_law_pair_right, F_law_pair_right⟩ := X_law_pair_right
  have g_law_pair_right := PySem.W.mg_of X G a_law_pair_right
  have b_law_pair_right : Binds K d_law_pair_right ["_law_spans", "_law_a", "_law_b"] [] := F_law_pair_right.binds (ps := ["_law_spans", "_law_a", "_law_b"]) fun _ _ _ _ _ _ us hl => match us, hl with | [_, _, _], _ => rfl
  obtain ⟨f_law_right, d_law_right, a_law_right, F_law_right⟩ := X_law_right
  have g_law_right := PySem.W.mg_of X G a_law_right
  have b_law_right : Binds K d_law_right ["_law_deck_here", "_law_one", "_law_other"] [] := F_law_right.binds (ps := ["_law_deck_here", "_law_one", "_law_other"]) fun _ _ _ _ _ _ us hl => match us, hl with | [_, _, _], _ => rfl
  obtain ⟨f_law0, d_law0, a_law0, F_law0⟩ := X_law
  have e := hfa.symm.trans (PySem.W.mg_of X G a_law0)
  cases e
  have mmax := PySem.W.mg_none_of X G z_max
  have mmin := PySem.W.mg_none_of X G z_min
  have mlist := PySem.W.mg_none_of X G z_list
  have msum := PySem.W.mg_none_of X G z_sum
  have mlen := PySem.W.mg_none_of X G z_len
  have msorted := PySem.W.mg_none_of X G z_sorted
  have mrange := PySem.W.mg_none_of X G z_range
  have mint := PySem.W.mg_none_of X G z_int
  have mrepr := PySem.W.mg_none_of X G z_repr
  have mtuple := PySem.W.mg_none_of X G z_tuple
  have mLIMIT := PySem.W.mg_of X G c_LIMIT
  obtain ⟨oc, od, kV, doc, pm, an, cdv, ct, osl, hfd, _, _⟩ := F_law0.ex
  refine ⟨d_law0, fun s v => ?_, fun base _ _ => ?_⟩
  · subst hfd
    exact .of_eq rfl
  · have G1 : FnOk P w K mg base CX0 1 fclip dclip ["number"] sp_clip := ok_clip Fclip mLIMIT mmax mmin
    have G2 := ok_hull (P := P) (w := w) (mg := mg) (base := base) (k := 0) Fhull mmax mmin
    have G3 := ok_plus (k := 1) Fplus G1 gclip Fclip.kp bclip
    have G4 := ok_minus (k := 1) Fminus G1 gclip Fclip.kp bclip
    have G5 := ok_times (k := 1) Ftimes G1 gclip Fclip.kp bclip mmax mmin
    have G6 := ok_less (P := P) (w := w) (mg := mg) (base := base) (k := 1) Fless
    have G7 := ok_same (P := P) (w := w) (mg := mg) (base := base) (k := 1) Fsame
    have G8 := ok_deck (P := P) (w := w) (mg := mg) (base := base) (k := 0) F_law_deck mlist msum mlen
    have G9 := ok_draw (P := P) (w := w) (mg := mg) (base := base) (k := 0) F_law_draw
    have G10 := ok_pick (k := 1) F_law_pick G9 g_law_draw F_law_draw.kp b_law_draw mlen
    have G11 := ok_number (k := 2) F_law_number (G9.mono (by decide)) g_law_draw F_law_draw.kp b_law_draw G10 g_law_pick F_law_pick.kp b_law_pick
    have G12 := ok_value (k := 2) F_law_value (G9.mono (by decide)) g_law_draw F_law_draw.kp b_law_draw G10 g_law_pick F_law_pick.kp b_law_pick
    have G13 := ok_between (k := 1) F_law_between G9 g_law_draw F_law_draw.kp b_law_draw
    have G14 := ok_part (k := 2) F_law_part G13 g_law_between F_law_between.kp b_law_between msorted
    have G15 := ok_holds (P := P) (w := w) (mg := mg) (base := base) (k := 1) F_law_holds
    have G16 := ok_told (k := 2) F_law_five G3 gplus Fplus.kp bplus G4 gminus Fminus.kp bminus G5 gtimes Ftimes.kp btimes G6 gless Fless.kp bless G7 gsame Fsame.kp bsame
    have G17 := ok_clip_right (k := 3) F_law_clip_right (G1.mono (by decide)) gclip Fclip.kp bclip mrepr
    have G18 := ok_pair_right (k := 3) F_law_pair_right (G1.mono (by decide)) gclip Fclip.kp bclip (G15.mono (by decide)) g_law_holds F_law_holds.kp b_law_holds G16 g_law_five F_law_five.kp b_law_five mrange mint mrepr
    have G19 := ok_right (k := 4) F_law_right (G16.mono (by decide)) g_law_five F_law_five.kp b_law_five (G13.mono (by decide)) g_law_between F_law_between.kp b_law_between G18 g_law_pair_right F_law_pair_right.kp b_law_pair_right (G14.mono (by decide)) g_law_part F_law_part.kp b_law_part (G2.mono (by decide)) ghull Fhull.kp bhull (G3.mono (by decide)) gplus Fplus.kp bplus (G4.mono (by decide)) gminus Fminus.kp bminus (G5.mono (by decide)) gtimes Ftimes.kp btimes (G6.mono (by decide)) gless Fless.kp bless mrange
    exact ok_law (k := 5) F_law0 (G8.mono (by decide)) g_law_deck F_law_deck.kp b_law_deck (G12.mono (by decide)) g_law_value F_law_value.kp b_law_value (G11.mono (by decide)) g_law_number F_law_number.kp b_law_number (FnG.mono G17 (by decide)) g_law_clip_right F_law_clip_right.kp b_law_clip_right G19 g_law_right F_law_right.kp b_law_right mrange msorted mtuple
end K3
open PySem PySem.W PyProof.Rows
set_option maxHeartbeats 0 in
theorem PySem.Challenge.cw_lookdone_k03_values_lie_within_spans_holds : PySem.Challenge.rw_lookdone_k03_values_lie_within_spans.Holds := by
  w_on; o_law; k_head; (case hw => w_witness2)
  k_fill
  refine GR.walk_g (l := PySem.Challenge.rw_lookdone_k03_values_lie_within_spans) (n := 63) (k := 6) (x := "_law_script") (sp := K3.sp_law) rfl (by decide) rfl ⟨rfl, by decide, by decide⟩ (fun w h Y => PySem.W.kIn_of Y) ?F (fun _ _ a ns hl _ hS => ⟨a, ns, rfl, hS, fun _ => rfl⟩)
  case F =>
    intro w mg fa h KX G hmg
    refine' K3.all_mk KX G hmg (K3.has_mk ?a_clip ?l_clip ?c_clip ?k_clip) (K3.has_mk ?a_hull ?l_hull ?c_hull ?k_hull) (K3.has_mk ?a_plus ?l_plus ?c_plus ?k_plus) (K3.has_mk ?a_minus ?l_minus ?c_minus ?k_minus) (K3.has_mk ?a_times ?l_times ?c_times ?k_times) (K3.has_mk ?a_less ?l_less ?c_less ?k_less) (K3.has_mk ?a_same ?l_same ?c_same ?k_same) (K3.has_mk ?a_law_deck ?l_law_deck ?c_law_deck ?k_law_deck) (K3.has_mk ?a_law_draw ?l_law_draw ?c_law_draw ?k_law_draw) (K3.has_mk ?a_law_pick ?l_law_pick ?c_law_pick ?k_law_pick) (K3.has_mk ?a_law_number ?l_law_number ?c_law_number ?k_law_number) (K3.has_mk ?a_law_value ?l_law_value ?c_law_value ?k_law_value) (K3.has_mk ?a_law_clip_right ?l_law_clip_right ?c_law_clip_right ?k_law_clip_right) (K3.has_mk ?a_law_between ?l_law_between ?c_law_between ?k_law_between) (K3.has_mk ?a_law_part ?l_law_part ?c_law_part ?k_law_part) (K3.has_mk ?a_law_five ?l_law_five ?c_law_five ?k_law_five) (K3.has_mk ?a_law_holds ?l_law_holds ?c_law_holds ?k_law_holds) (K3.has_mk ?a_law_pair_right ?l_law_pair_right ?c_law_pair_right ?k_law_pair_right) (K3.has_mk ?a_law_right ?l_law_right ?c_law_right ?k_law_right) (K3.has_mk ?a_law ?l_law ?c_law ?k_law) ?z_max ?z_min ?z_list ?z_sum ?z_len ?z_sorted ?z_range ?z_int ?z_repr ?z_tuple ?c0_LIMIT
    (case a_clip => k_is)
    (case l_clip => k_is)
    (case c_clip => k_is)
    (case k_clip => k_is)
    (case a_hull => k_is)
    (case l_hull => k_is)
    (case c_hull => k_is)
    (case k_hull => k_is)
    (case a_plus => k_is)
    (case l_plus => k_is)
    (case c_plus => k_is)
    (case k_plus => k_is)
    (case a_minus => k_is)
    (case l_minus => k_is)
    (case c_minus => k_is)
    (case k_minus => k_is)
    (case a_times => k_is)
    (case l_times => k_is)
    (case c_times => k_is)
    (case k_times => k_is)
    (case a_less => k_is)
    (case l_less => k_is)
    (case c_less => k_is)
    (case k_less => k_is)
    (case a_same => k_is)
    (case l_same => k_is)
    (case c_same => k_is)
    (case k_same => k_is)
    (case a_law_deck => k_is)
    (case l_law_deck => k_is)
    (case c_law_deck => k_is)
    (case k_law_deck => k_is)
    (case a_law_draw => k_is)
    (case l_law_draw => k_is)
    (case c_law_draw => k_is)
    (case k_law_draw => k_is)
    (case a_law_pick => k_is)
    (case l_law_pick => k_is)
    (case c_law_pick => k_is)
    (case k_law_pick => k_is)
    (case a_law_number => k_is)
    (case l_law_number => k_is)
    (case c_law_number => k_is)
    (case k_law_number => k_is)
    (case a_law_value => k_is)
    (case l_law_value => k_is)
    (case c_law_value => k_is)
    (case k_law_value => k_is)
    (case a_law_clip_right => k_is)
    (case l_law_clip_right => k_is)
    (case c_law_clip_right => k_is)
    (case k_law_clip_right => k_is)
    (case a_law_between => k_is)
    (case l_law_between => k_is)
    (case c_law_between => k_is)
    (case k_law_between => k_is)
    (case a_law_part => k_is)
    (case l_law_part => k_is)
    (case c_law_part => k_is)
    (case k_law_part => k_is)
    (case a_law_five => k_is)
    (case l_law_five => k_is)
    (case c_law_five => k_is)
    (case k_law_five => k_is)
    (case a_law_holds => k_is)
    (case l_law_holds => k_is)
    (case c_law_holds => k_is)
    (case k_law_holds => k_is)
    (case a_law_pair_right => k_is)
    (case l_law_pair_right => k_is)
    (case c_law_pair_right => k_is)
    (case k_law_pair_right => k_is)
    (case a_law_right => k_is)
    (case l_law_right => k_is)
    (case c_law_right => k_is)
    (case k_law_right => k_is)
    (case a_law => k_is)
    (case l_law => k_is)
    (case c_law => k_is)
    (case k_law => k_is)
    (case z_max => k_is)
    (case z_min => k_is)
    (case z_list => k_is)
    (case z_sum => k_is)
    (case z_len => k_is)
    (case z_sorted => k_is)
    (case z_range => k_is)
    (case z_int => k_is)
    (case z_repr => k_is)
    (case z_tuple => k_is)
    (case c0_LIMIT => k_is)
