import PyProof.Rows.All
import Wide.All
import OpenK.AllK
import Wide.FinOn
import HandS.ForMost
import HandS.IsInst
import HandS.Zip
import HandS.Walk
import HandS.More
import HandS.SortKw
import HandS.ForExc
import HandS.ExcInit
import HandS.ExcField
import HandS.TryMany
import HandS.ClsMeth
import HandS.FStr
import HandS.FStrTup
import HandS.WordsExc
import HandS.Defaults
import HandS.SuiteRaise
import HandS.RaiseFrom
import HandS.ExcInitHot
import KE.KAsSuite
import KE.KExcIs
import HandS.Text
import HandS.SortInts
import HandS.SetFor
import KE.KDictZip
import KE.KDictItemsList
import KE.GoesZip
import KE.GoesMore
import KE.GoesEnum
import HandS.ListItems
import HandS.Strs
import PyProof.TupleOfSeq
import PySem.Challenge.RW_swapslip_k07_whole_round_or_lot
set_option Elab.async false
set_option linter.all false
set_option maxRecDepth 100000
set_option maxHeartbeats 2000000


namespace PySem
namespace F
theorem args_sum2 (a b : Value) : argsOk "sum" ⟨[a, b], []⟩ := by unfold argsOk; kernel_rfl
end F
/-- the items of the lists from the i-th on, k of them -/
def catFrom (xs : Nat → Array Value) (i : Nat) : Nat → Array Value
  | 0 => #[]
  | k + 1 => xs i ++ catFrom xs (i + 1) k
section
variable {prog : Program} {w : World} {A : Around} {R : Result → Shared → Prop}
theorem sum_lists_loop (hh : A.in1.handled = none) (I ax S : Addr) (hne : ax ≠ I) (hSI : S ≠ I) (hSa : S ≠ ax) (items : Array Value) (ls : Nat → Addr) (xs : Nat → Array Value)
    (hit : ∀ (i : Nat) (v : Value), items[i]? = some v → v = Value.ref (ls i)) (hlI : ∀ i, i < items.size → ls i ≠ I) (hlS : ∀ i, i < items.size → ls i ≠ S) :
    ∀ (k i : Nat) (s : Shared) (acc : Addr) (ai : Array Value) (m c : Nat), items.size - i = k → i ≤ items.size → (s.heap.IsListIter I ax i ∧ s.heap.IsList ax items) →
      s.heap.get? S = some { cls := .type "list", dict := none, data := .seq #[.ref acc] c, slots := #[] } → s.heap.get? acc = some { cls := .type "list", data := .seq ai m } →
      (∀ j, j < items.size → ∃ n, s.heap.get? (ls j) = some { cls := .type "list", data := .seq (xs j) n }) → acc ≠ I → acc ≠ S →
      ai.size + (catFrom xs i k).size ≤ sizeLine →
      (∀ h' tk r n, (∀ b o, b ≠ I → b ≠ S → s.heap.get? b = some o → h'.get? b = some o) → h'.get? r = some { cls := .type "list", data := .seq (ai ++ catFrom xs i k) n } → (k = 0 → r = acc) → (0 < k → S < r) → R (.ok (.ret (.ref r))) { s with heap := h', toks := tk }) →
      codeAny (model prog w) A (.builtin "sum.loop" ⟨[.ref I, .ref S, rawInt 2, rawInt 0], []⟩) R s := by
  have W := Walks.list (prog := prog) (w := w) hh I ax hne items
  intro k
  induction k with
  | zero =>
    intro i s acc ai m c hk hi hst hS ha hl haI haS hz hR
    have hin : i = items.size := by omega
    subst hin
    refine codeAny_builtin F.entry_sum_loop ?_
    rw [Around.under_plainId F.plain_sum_loop _]
    show wpAny _ A.in1 (seqItems? (.ref S) >>= _) _ _ s
    refine wpAny_bind (wpAny_seqItems hS rfl ?_)
    show wpAny _ A.in1 (tryCatch (pyNext (.ref I)) _ >>= _) _ _ s
    refine wpAny_bind (wpAny_tryCatch (W.done s _ _ hst fun h' tk hk' => ?_))
    refine wpAny_pure (hR h' tk acc m (fun b o hbI hbS e => hk' b o (by simpa using hbI) e) ?_ (fun _ => rfl) (fun h => absurd h (Nat.lt_irrefl _)))
    have := hk' acc _ (by simpa using haI) ha
    simpa [catFrom] using this
  | succ k ih =>
    intro i s acc ai m c hk hi hst hS ha hl haI haS hz hR
    have hlt : i < items.size := by omega
    refine codeAny_builtin F.entry_sum_loop ?_
    rw [Around.under_plainId F.plain_sum_loop _]
    show wpAny _ A.in1 (seqItems? (.ref S) >>= _) _ _ s
    refine wpAny_bind (wpAny_seqItems hS rfl ?_)
    show wpAny _ A.in1 (tryCatch (pyNext (.ref I)) _ >>= _) _ _ s
    refine wpAny_bind (wpAny_tryCatch (W.item i s _ _ hlt hst fun v h' tk hP hst' hk' => ?_))
    have ev := hit i v hP
    subst ev
    have hS' := hk' S _ (by simpa using hSI) hS
    have ha' := hk' acc _ (by simpa using haI) ha
    obtain ⟨n1, hl1⟩ := hl i hlt
    have hl1' := hk' (ls i) _ (by simpa using hlI i hlt) hl1
    have hzz : ai.size + (xs i).size ≤ sizeLine := by
      have : (catFrom xs i (k + 1)).size = (xs i).size + (catFrom xs (i + 1) k).size := by simp [catFrom]
      omega
    show wpAny _ A.in1 ((holding [Value.ref (ls i)] (binaryOp .Add (.ref acc) (.ref (ls i)))).attempt >>= _) _ _ _
    refine wpAny_bind (wpAny_attempt (wpAny_holding (PySem.P.add_list (s := { s with heap := h', toks := tk }) ha' hl1' ?_ hzz)))
    have hSz : S < h'.objs.size := Heap.lt_size hS'
    have hIz : I < h'.objs.size := by obtain ⟨_, e, _⟩ := hst'.1; exact Heap.lt_size e
    have hS2 : (h'.push { cls := .type "list", data := .seq (ai ++ xs i) }).get? S = _ := Heap.get?_push_of_some _ hS'
    show wpAny _ A.in1 (updateSeq S (fun _ => #[.ref h'.objs.size]) >>= _) _ _ _
    refine wpAny_bind (wpAny_updateSeq hS2 rfl ?_)
    have hS₃ := Heap.get?_update_self (Obj.mapSeq fun _ => #[Value.ref h'.objs.size]) hS2 rfl
    refine wpAny_bind (wpAny_letGo ?_)
    refine wpAny_bind (wpAny_updateSeq hS₃ rfl ?_)
    have hS₄ := Heap.get?_update_self (Obj.mapSeq fun _ => #[Value.ref h'.objs.size]) hS₃ rfl
    have keep : ∀ b o, b ≠ S → h'.get? b = some o → (((h'.push { cls := .type "list", data := .seq (ai ++ xs i) }).update S (Obj.mapSeq fun _ => #[Value.ref h'.objs.size])).update S (Obj.mapSeq fun _ => #[Value.ref h'.objs.size])).get? b = some o := fun b o hb e =>
      (Heap.get?_update_other _ _ (Ne.symm hb)).trans ((Heap.get?_update_other _ _ (Ne.symm hb)).trans (Heap.get?_push_of_some _ e))
    have hnew : (((h'.push { cls := .type "list", data := .seq (ai ++ xs i) }).update S (Obj.mapSeq fun _ => #[Value.ref h'.objs.size])).update S (Obj.mapSeq fun _ => #[Value.ref h'.objs.size])).get? h'.objs.size = some { cls := .type "list", data := .seq (ai ++ xs i) } :=
      (Heap.get?_update_other _ _ (Nat.ne_of_lt hSz)).trans ((Heap.get?_update_other _ _ (Nat.ne_of_lt hSz)).trans (Heap.get?_push_size _ rfl))
    refine wpAny_pure ⟨plainId_quiet F.plain_sum_loop _, ih (i + 1) _ h'.objs.size (ai ++ xs i) _ _ (by omega) hlt (W.frame _ _ _ hst' fun b hb o e => keep b o ?_ e) hS₄ hnew ?_ (Nat.ne_of_gt hIz) (Nat.ne_of_gt hSz) ?_ ?_⟩
    · intro q; subst q
      rcases List.mem_cons.mp hb with q | q
      · exact hSI q
      · exact hSa (by simpa using q)
    · intro j hj
      obtain ⟨n2, e2⟩ := hl j hj
      exact ⟨n2, keep _ _ (hlS j hj) (hk' _ _ (by simpa using hlI j hj) e2)⟩
    · have : (catFrom xs i (k + 1)).size = (xs i).size + (catFrom xs (i + 1) k).size := by simp [catFrom]
      simp only [Array.size_append]
      omega
    · intro h2 tk2 r n hk2 hr h0 h1
      refine hR h2 tk2 r n (fun b o hbI hbS e => hk2 b o hbI hbS (keep b o hbS (hk' b o (by simpa using hbI) e))) ?_ (fun q => by omega) (fun _ => ?_)
      · simpa [catFrom, Array.append_assoc] using hr
      · by_cases h00 : k = 0
        · rw [h0 h00]; exact hSz
        · exact h1 (by omega)
end
section
variable {prog : Program} {w : World} {A : Around} {E : Value → Shared → Prop} {s : Shared}
theorem sub_list_str : isSubtype (.type "list") (.type "str") = pure false := by rw [isSubtype_type]; kernel_rfl
theorem sub_list_bytes : isSubtype (.type "list") (.type "bytes") = pure false := by rw [isSubtype_type]; kernel_rfl
theorem sub_list_bytearray : isSubtype (.type "list") (.type "bytearray") = pure false := by rw [isSubtype_type]; kernel_rfl
theorem call_sum_lists {l z : Addr} {items zi : Array Value} {nl nz : Nat} {Q : Value → Shared → Prop} (ls : Nat → Addr) (xs : Nat → Array Value) (hh : A.in1.handled = none)
    (hl : s.heap.get? l = some { cls := .type "list", data := .seq items nl }) (hz : s.heap.get? z = some { cls := .type "list", data := .seq zi nz })
    (hit : ∀ (i : Nat) (v : Value), items[i]? = some v → v = Value.ref (ls i)) (hls : ∀ j, j < items.size → ∃ n, s.heap.get? (ls j) = some { cls := .type "list", data := .seq (xs j) n }) (hpos : 0 < items.size)
    (hsz : zi.size + (catFrom xs 0 items.size).size ≤ sizeLine)
    (h : ∀ h' tk r n, (∀ b o, s.heap.get? b = some o → h'.get? b = some o) → s.heap.objs.size ≤ r → h'.get? r = some { cls := .type "list", data := .seq (zi ++ catFrom xs 0 items.size) n } → Q (.ref r) { s with heap := h', toks := tk }) :
    wpAny (model prog w) A (call (.builtin "sum") [.ref l, .ref z]) Q E s := by
  have hil : s.heap.IsList l items := ⟨_, hl, rfl, _, rfl⟩
  have hiz : s.heap.IsList z zi := ⟨_, hz, rfl, _, rfl⟩
  refine call_function_tree F.kind_sum F.plain_sum F.entry_sum (F.args_sum2 _ _) ?_
  unfold Builtin.«sum»
  simp only [List.length_cons, List.length_nil]
  rw [if_neg (by decide)]
  refine wpAny_bind (wpAny_of_eq (show Builtin.Builtins.bindParams "sum" ["start"] 0 ⟨[.ref z], []⟩ = pure [some (.ref z)] from rfl) ?_)
  refine wpAny_bind (L2.iter_any hil fun s₂ e2 st hne => ?_)
  subst e2
  refine wpAny_bind (wpAny_pure ?_)
  have hiz2 := hiz.push { cls := .type "list_iterator", data := .fields #[.ref l, .int 0 0] }
  simp only [List.forIn_cons, List.forIn_nil]
  refine wpAny_bind (wpAny_bind (wpAny_bind (wpAny_isInstance (T := "list") (b := false) hiz2.typeIs sub_list_str ?_)))
  simp only [Bool.false_eq_true, if_false]
  refine wpAny_pure (wpAny_bind (wpAny_bind (wpAny_isInstance (T := "list") (b := false) hiz2.typeIs sub_list_bytes ?_)))
  simp only [Bool.false_eq_true, if_false]
  refine wpAny_pure (wpAny_bind (wpAny_bind (wpAny_isInstance (T := "list") (b := false) hiz2.typeIs sub_list_bytearray ?_)))
  simp only [Bool.false_eq_true, if_false]
  refine wpAny_pure (wpAny_pure ?_)
  refine wpAny_bind (wpAny_newObj_type ?_)
  have hsz1 : (s.heap.push { cls := .type "list_iterator", data := .fields #[.ref l, .int 0 0] }).objs.size = s.heap.objs.size + 1 := Heap.size_push _ _
  have old : ∀ b o, s.heap.get? b = some o → ((s.heap.push { cls := .type "list_iterator", data := .fields #[.ref l, .int 0 0] }).push { cls := .type "list", data := .seq #[Value.ref z] }).get? b = some o := fun b o e =>
    Heap.get?_push_of_some _ (Heap.get?_push_of_some _ e)
  have lt : ∀ b o, s.heap.get? b = some o → b < s.heap.objs.size := fun b o e => Heap.lt_size e
  have lt2 : ∀ b, b < s.heap.objs.size → b ≠ (s.heap.push { cls := .type "list_iterator", data := .fields #[.ref l, .int 0 0] }).objs.size := fun b hb => Nat.ne_of_lt (by rw [hsz1]; exact Nat.lt_succ_of_lt hb)
  refine wpAny_pure ⟨plainId_quiet F.plain_sum_loop _, sum_lists_loop (A := A) hh s.heap.objs.size l (s.heap.push { cls := .type "list_iterator", data := .fields #[.ref l, .int 0 0] }).objs.size hne (Nat.ne_of_gt (by rw [hsz1]; exact Nat.lt_succ_self _)) (Ne.symm (lt2 _ (lt _ _ hl))) items ls xs hit
    (fun i hi => by obtain ⟨n, e⟩ := hls i hi; exact Nat.ne_of_lt (lt _ _ e)) (fun i hi => by obtain ⟨n, e⟩ := hls i hi; exact lt2 _ (lt _ _ e))
    items.size 0 _ z zi nz 0 (by omega) (Nat.zero_le _) ⟨st.1.at fun o e => Heap.get?_push_of_some _ e, st.2.push _⟩ (Heap.get?_push_size _ rfl) (old _ _ hz) (fun j hj => by obtain ⟨n, e⟩ := hls j hj; exact ⟨n, old _ _ e⟩)
    (Nat.ne_of_lt (lt _ _ hz)) (lt2 _ (lt _ _ hz)) hsz fun h' tk r n hk hr _ h1 => ?_⟩
  refine h h' tk r n (fun b o e => hk b o (Nat.ne_of_lt (lt _ _ e)) (lt2 _ (lt _ _ e)) (old b o e)) ?_ hr
  have := h1 hpos
  rw [hsz1] at this
  exact Nat.le_of_lt (Nat.lt_of_succ_lt this)
end
end PySem

namespace L2
open PySem PySem.Spec PyProof.Rows
section
variable {X : Cx}
/-- xs[i] as it is read in xs[i] op= e -/
def rGetL (K : PySem.W.Frag) : R2 := fun x y H Q => ∃ p xs i v, x = .ref p ∧ y = .int i ∧ SqL K H p xs ∧ 0 ≤ i ∧ xs[i.toNat]? = some v ∧ Q v H
theorem get_listA : PGet X (rGetL X.K) := by
  intro pins s σ H x y v u Q I rx ry h
  obtain ⟨p, xs, i, z, rfl, rfl, hq, h0, he, q⟩ := h
  cases rx
  obtain ⟨t, rfl⟩ := ry
  obtain ⟨its, r, pl, hz⟩ := I.list hq
  obtain ⟨w, ew, rw'⟩ := r.get he
  have hl := r.length
  have hn := line63
  have hlt : i.toNat < xs.length := (List.getElem?_eq_some_iff.mp he).1
  exact wpAny_getItem_list pl.isList h0 (by omega) (by simpa using ew) ⟨z, H, I, rw', q⟩
/-- sum(xss, zs): a list of one list and more, and a list to begin with -/
def rSumL (K : PySem.W.Frag) : List V → Hp → VK → Prop := fun vs H Q => ∃ (a z : Addr) (ls : List Addr) (xss : List (List V)) (zs : List V), vs = [V.ref a, V.ref z] ∧ H a = some (.lst (ls.map V.ref)) ∧ H z = some (.lst zs) ∧
  Paired (fun l xs => H l = some (.lst xs)) ls xss ∧ ls ≠ [] ∧ zs.length + xss.flatten.length ≤ sizeLine ∧ ∀ p, H p = none → Q (.ref p) (upd H p (.lst (zs ++ xss.flatten)))
theorem paired_at {α β : Type} {R : α → β → Prop} : ∀ {xs : List α} {ys : List β}, Paired R xs ys → ∀ (i : Nat) (x : α), xs[i]? = some x → ∃ y, ys[i]? = some y ∧ R x y
  | _, _, .nil, i, x, h => by simp at h
  | _, _, .cons r t, 0, x, h => by simp at h; subst h; exact ⟨_, rfl, r⟩
  | _, _, .cons r t, i + 1, x, h => by
    obtain ⟨y, e, q⟩ := paired_at t i x (by simpa using h)
    exact ⟨y, by simpa using e, q⟩
/-- the items of the list object at a -/
def seqAt (h : Heap) (a : Addr) : Array Value := match h.get? a with
  | some ⟨_, _, .seq xs _, _⟩ => xs
  | _ => #[]
theorem vals_cat {X : Cx} {pins : List (Addr × Obj)} {σ : St} {H : Hp} {s : Shared} (I : Inv X pins σ H s) : ∀ {ls : List Addr} {xss : List (List V)} (f : Nat → Addr) (i : Nat), Paired (fun l xs => H l = some (.lst xs)) ls xss → (∀ j a, ls[j]? = some a → f (i + j) = a) →
    Vals xss.flatten (catFrom (fun j => seqAt s.heap (f j)) i ls.length).toList
  | _, _, f, i, .nil, _ => .nil
  | _, _, f, i, .cons (a := l) (b := xs) (l₁ := ls) (l₂ := xss) r t, h => by
    obtain ⟨z, its, n, rv, hl, e⟩ := I.lstM r
    have e0 : f i = l := h 0 l rfl
    have es : seqAt s.heap (f i) = its.toArray := by
      unfold seqAt
      rw [e0, e]
    have ih := vals_cat I f (i + 1) t fun j a ha => by rw [show i + 1 + j = i + (j + 1) by omega]; exact h (j + 1) a (by simpa using ha)
    show Vals (xs ++ xss.flatten) (seqAt s.heap (f i) ++ catFrom (fun j => seqAt s.heap (f j)) (i + 1) ls.length).toList
    rw [es, Array.toList_append]
    exact rv.append ih
theorem vals_refs : ∀ {ls : List Addr} {us : List Value}, Vals (ls.map V.ref) us → us = ls.map Value.ref
  | [], _, .nil => rfl
  | l :: ls, _, .cons r t => by
    rw [vals_refs t]
    cases r
    rfl
theorem cr_sumL (hc : X.calm = true) : CallR X (.builtin "sum") (rSumL X.K) := by
  intro pins s σ H vs us Q I r h
  obtain ⟨a, z, ls, xss, zs, rfl, ha, hz, hp, hne, hsz, q⟩ := h
  obtain ⟨u1, u2, rfl, r1, r2⟩ := Vals.two r
  cases (show u1 = Value.ref a from r1)
  cases (show u2 = Value.ref z from r2)
  obtain ⟨_, its, n, rv, hl, e⟩ := I.lstM ha
  obtain ⟨_, itz, nz, rz, hlz, ez⟩ := I.lstM hz
  have ei := vals_refs rv
  subst ei
  have hlen : (ls.map Value.ref).toArray.size = ls.length := by simp
  have hcat := vals_cat I (fun j => ls.getD j 0) 0 hp (fun j b hb => by
    show ls.getD (0 + j) 0 = b
    rw [Nat.zero_add, List.getD_eq_getElem?_getD, hb]
    rfl)
  have hcl := hcat.length
  refine call_sum_lists (items := (ls.map Value.ref).toArray) (zi := itz.toArray) (fun j => ls.getD j 0) (fun j => seqAt s.heap (ls.getD j 0)) (I.ok.hd hc) e ez (fun i v hv => ?_) (fun j hj => ?_) ?_ ?_ fun h' tk p n' hk hp' hr => ?_
  · have hv' : (ls.map Value.ref)[i]? = some v := by simpa using hv
    rw [List.getElem?_map] at hv'
    obtain ⟨b, hb, rfl⟩ := Option.map_eq_some_iff.mp hv'
    rw [List.getD_eq_getElem?_getD, hb]
    rfl
  · rw [hlen] at hj
    have hb : ls[j]? = some ls[j] := List.getElem?_eq_getElem hj
    obtain ⟨ys, _, hy⟩ := paired_at hp j _ hb
    obtain ⟨_, itj, nj, _, _, ej⟩ := I.lstM hy
    refine ⟨nj, ?_⟩
    have : ls.getD j 0 = ls[j] := by rw [List.getD_eq_getElem?_getD, hb]; rfl
    rw [this, ej]
    unfold seqAt
    rw [ej]
  · rw [hlen]
    cases ls with
    | nil => exact absurd rfl hne
    | cons => simp
  · rw [hlen]
    simp only [List.size_toArray]
    have : (catFrom (fun j => seqAt s.heap (ls.getD j 0)) 0 ls.length).size = xss.flatten.length := (hcl.trans Array.length_toList).symm
    omega
  · rw [hlen] at hr
    have hv : Vals (zs ++ xss.flatten) (itz ++ (catFrom (fun j => seqAt s.heap (ls.getD j 0)) 0 ls.length).toList) := rz.append hcat
    refine ⟨.ref p, upd H p (.lst (zs ++ xss.flatten)), I.laid hk hp' ⟨by rw [List.length_append]; exact hsz, _, n', hv, ?_⟩, rfl, q p (I.hok.fresh hp')⟩
    rw [hr]
    congr 3
    apply Array.ext'
    simp
end
end L2

namespace Sw
/-! ties as (one, other, price); directed edges likewise: (a, b, c): from a one goes to b for c -/
abbrev T3 := Nat × Nat × Nat
/-- a way from v to the goal g with k steps for c -/
inductive Way (E : List T3) (g : Nat) : Nat → Nat → Nat → Prop
  | nil : Way E g g 0 0
  | cons {a b p k c : Nat} : (a, b, p) ∈ E → Way E g b k c → Way E g a (k + 1) (p + c)
abbrev Dist := List (Option Nat)
def at? (d : Dist) (v : Nat) : Option Nat := (d[v]?).getD none
/-- one relaxing -/
def relax (d : Dist) (e : T3) : Dist :=
  match at? d e.2.1 with
  | none => d
  | some y => match at? d e.1 with
    | none => d.set e.1 (some (y + e.2.2))
    | some x => if y + e.2.2 < x then d.set e.1 (some (y + e.2.2)) else d
def roundOf (L : List T3) (d : Dist) : Dist := L.foldl relax d
def start (n g : Nat) : Dist := (List.replicate n none).set g (some 0)
def rounds (L : List T3) : Nat → Dist → Dist
  | 0, d => d
  | k + 1, d => rounds L k (roundOf L d)
theorem relax_len (d : Dist) (e : T3) : (relax d e).length = d.length := by
  unfold relax
  split
  · rfl
  · split
    · simp
    · split <;> simp
theorem round_len (L : List T3) : ∀ d, (roundOf L d).length = d.length := by
  induction L with
  | nil => intro d; rfl
  | cons e L ih => intro d; show (roundOf L (relax d e)).length = _; rw [ih, relax_len]
theorem at_set (d : Dist) (v u : Nat) (x : Option Nat) (h : v < d.length) : at? (d.set v x) u = if u = v then x else at? d u := by
  unfold at?
  rw [List.getElem?_set]
  by_cases e : v = u
  · subst e; simp [h]
  · simp [e, Ne.symm e]
/-- le on Option with none the top -/
def Le (x y : Option Nat) : Prop := ∀ c, y = some c → ∃ c', x = some c' ∧ c' ≤ c
theorem Le.refl (x : Option Nat) : Le x x := fun c h => ⟨c, h, Nat.le_refl _⟩
theorem Le.trans {x y z : Option Nat} (h : Le x y) (h' : Le y z) : Le x z := fun c e => by
  obtain ⟨c1, e1, l1⟩ := h' c e
  obtain ⟨c2, e2, l2⟩ := h c1 e1
  exact ⟨c2, e2, Nat.le_trans l2 l1⟩
theorem relax_le (d : Dist) (e : T3) (hl : e.1 < d.length) (v : Nat) : Le (at? (relax d e) v) (at? d v) := by
  unfold relax
  split
  · exact Le.refl _
  · rename_i y hy
    split
    · rename_i hx
      rw [at_set _ _ _ _ hl]
      split
      · rename_i ev; subst ev; intro c hc; rw [hx] at hc; cases hc
      · exact Le.refl _
    · rename_i x hx
      split
      · rename_i lt
        rw [at_set _ _ _ _ hl]
        split
        · rename_i ev; subst ev; intro c hc; rw [hx] at hc; cases hc; exact ⟨_, rfl, Nat.le_of_lt lt⟩
        · exact Le.refl _
      · exact Le.refl _
theorem relax_does (d : Dist) (e : T3) (hl : e.1 < d.length) {y : Nat} (hy : at? d e.2.1 = some y) : Le (at? (relax d e) e.1) (some (y + e.2.2)) := by
  unfold relax
  rw [hy]
  simp only
  split
  · rw [at_set _ _ _ _ hl, if_pos rfl]; exact Le.refl _
  · rename_i x hx
    split
    · rw [at_set _ _ _ _ hl, if_pos rfl]; exact Le.refl _
    · rename_i nl
      intro c hc; cases hc; exact ⟨x, hx, by omega⟩
theorem round_le (L : List T3) : ∀ (d : Dist), (∀ e ∈ L, e.1 < d.length) → ∀ v, Le (at? (roundOf L d) v) (at? d v) := by
  induction L with
  | nil => intro d _ v; exact Le.refl _
  | cons e L ih =>
    intro d h v
    have h1 := relax_le d e (h e List.mem_cons_self) v
    have h2 := ih (relax d e) (fun e' m => by rw [relax_len]; exact h e' (List.mem_cons_of_mem _ m)) v
    exact Le.trans h2 h1
theorem round_does (L : List T3) : ∀ (d : Dist), (∀ e ∈ L, e.1 < d.length) → ∀ e ∈ L, ∀ y, at? d e.2.1 = some y → Le (at? (roundOf L d) e.1) (some (y + e.2.2)) := by
  induction L with
  | nil => intro d _ e m; cases m
  | cons e0 L ih =>
    intro d h e m y hy
    have hr : ∀ e ∈ L, e.1 < (relax d e0).length := fun e' m => by rw [relax_len]; exact h e' (List.mem_cons_of_mem _ m)
    have h1 := relax_le d e0 (h e0 List.mem_cons_self)
    rcases List.mem_cons.mp m with q | q
    · subst q
      have := relax_does d e (h e List.mem_cons_self) hy
      exact Le.trans (round_le L _ hr e.1) this
    · obtain ⟨y', e1, l1⟩ := h1 e.2.1 y hy
      obtain h2 := ih (relax d e0) hr e q y' e1
      intro c hc
      cases hc
      obtain ⟨c', e2, l2⟩ := h2 _ rfl
      exact ⟨c', e2, by omega⟩
/-- soundness -/
def Sound (E : List T3) (g : Nat) (d : Dist) : Prop := ∀ v c, at? d v = some c → ∃ k, Way E g v k c
theorem relax_sound {E : List T3} {g : Nat} {d : Dist} {e : T3} (he : e ∈ E) (hl : e.1 < d.length) (s : Sound E g d) : Sound E g (relax d e) := by
  intro v c hv
  unfold relax at hv
  split at hv
  · exact s v c hv
  · rename_i y hy
    obtain ⟨k, wk⟩ := s _ _ hy
    have ws : ∃ k, Way E g e.1 k (y + e.2.2) := ⟨k + 1, by rw [Nat.add_comm y]; exact Way.cons he wk⟩
    split at hv
    · rw [at_set _ _ _ _ hl] at hv
      split at hv
      · rename_i ev; subst ev; cases hv; exact ws
      · exact s v c hv
    · split at hv
      · rw [at_set _ _ _ _ hl] at hv
        split at hv
        · rename_i ev; subst ev; cases hv; exact ws
        · exact s v c hv
      · exact s v c hv
theorem round_sound {E : List T3} {g : Nat} (L : List T3) : ∀ (d : Dist), (∀ e ∈ L, e ∈ E) → (∀ e ∈ L, e.1 < d.length) → Sound E g d → Sound E g (roundOf L d) := by
  induction L with
  | nil => intro d _ _ s; exact s
  | cons e L ih =>
    intro d h1 h2 s
    exact ih (relax d e) (fun e' m => h1 e' (List.mem_cons_of_mem _ m)) (fun e' m => by rw [relax_len]; exact h2 e' (List.mem_cons_of_mem _ m)) (relax_sound (h1 e List.mem_cons_self) (h2 e List.mem_cons_self) s)
/-- below every way of at most k steps -/
def Below (E : List T3) (g k : Nat) (d : Dist) : Prop := ∀ v j c, j ≤ k → Way E g v j c → Le (at? d v) (some c)
theorem round_below {E : List T3} {g k : Nat} (L : List T3) (d : Dist) (h1 : ∀ e ∈ E, e ∈ L) (h2 : ∀ e ∈ L, e.1 < d.length) (b : Below E g k d) : Below E g (k + 1) (roundOf L d) := by
  intro v j c hj w
  cases w with
  | nil => exact Le.trans (round_le L d h2 _) (b _ 0 0 (Nat.zero_le _) Way.nil)
  | @cons _ u p j' c' he w' =>
    obtain ⟨y, e1, l1⟩ := b u j' c' (by omega) w' _ rfl
    obtain ⟨z, e2, l2⟩ := round_does L d h2 _ (h1 _ he) y e1 _ rfl
    intro c2 hc2
    cases hc2
    refine ⟨z, e2, ?_⟩
    simp only at l2
    omega
theorem rounds_len (L : List T3) : ∀ k d, (rounds L k d).length = d.length := by
  intro k
  induction k with
  | zero => intro d; rfl
  | succ k ih => intro d; show (rounds L k (roundOf L d)).length = _; rw [ih, round_len]
theorem rounds_ok {E : List T3} {g : Nat} (L : List T3) (h0 : ∀ e, e ∈ E ↔ e ∈ L) : ∀ (k j : Nat) (d : Dist), (∀ e ∈ L, e.1 < d.length) → Sound E g d → Below E g j d → Sound E g (rounds L k d) ∧ Below E g (j + k) (rounds L k d) := by
  intro k
  induction k with
  | zero => intro j d _ s b; exact ⟨s, b⟩
  | succ k ih =>
    intro j d h s b
    have := ih (j + 1) (roundOf L d) (fun e m => by rw [round_len]; exact h e m) (round_sound L d (fun e m => (h0 e).mpr m) h s) (round_below L d (fun e m => (h0 e).mp m) h b)
    rw [show j + (k + 1) = j + 1 + k by omega]
    exact this
theorem rounds_succ (L : List T3) : ∀ k d, rounds L (k + 1) d = roundOf L (rounds L k d) := by
  intro k
  induction k with
  | zero => intro d; rfl
  | succ k ih => intro d; show rounds L (k + 1) (roundOf L d) = _; rw [ih]; rfl
/-! a way without a house twice -/
/-- no more than n different numbers below n -/
theorem nodup_le : ∀ (n : Nat) (l : List Nat), l.Nodup → (∀ x ∈ l, x < n) → l.length ≤ n := by
  intro n
  induction n with
  | zero =>
    intro l _ h
    cases l with
    | nil => simp
    | cons a l => exact absurd (h a List.mem_cons_self) (by omega)
  | succ n ih =>
    intro l nd h
    have h1 := ih (l.erase n) (nd.erase _) (fun x m => by
      have := h x (List.mem_of_mem_erase m)
      have hne : x ≠ n := fun q => by
        subst q
        exact (List.Nodup.not_mem_erase nd) m
      omega)
    have h2 : l.length ≤ (l.erase n).length + 1 := by
      rw [List.length_erase]
      split <;> omega
    omega
/-- the houses of a way (the goal left out) -/
inductive WayL (E : List T3) (g : Nat) : Nat → List Nat → Nat → Prop
  | nil : WayL E g g [] 0
  | cons {a b p c : Nat} {l : List Nat} : (a, b, p) ∈ E → WayL E g b l c → WayL E g a (a :: l) (p + c)
theorem Way.toL {E : List T3} {g v k c : Nat} (w : Way E g v k c) : ∃ l, WayL E g v l c ∧ l.length = k := by
  induction w with
  | nil => exact ⟨[], .nil, rfl⟩
  | cons he _ ih => obtain ⟨l, w, e⟩ := ih; exact ⟨_, .cons he w, by simp [e]⟩
theorem WayL.toW {E : List T3} {g v c : Nat} {l : List Nat} (w : WayL E g v l c) : Way E g v l.length c := by
  induction w with
  | nil => exact .nil
  | cons he _ ih => exact .cons he ih
/-- from a house on the way on -/
theorem WayL.from {E : List T3} {g v c : Nat} {l : List Nat} (w : WayL E g v l c) (nd : l.Nodup) : ∀ u ∈ l, ∃ l' c', WayL E g u l' c' ∧ c' ≤ c ∧ l'.Nodup ∧ ∀ x ∈ l', x ∈ l := by
  induction w with
  | nil => intro u m; cases m
  | @cons a b p c l he w ih =>
    intro u m
    rcases List.mem_cons.mp m with q | q
    · subst q; exact ⟨_, _, .cons he w, Nat.le_refl _, nd, fun x m => m⟩
    · obtain ⟨l', c', w', le, nd', sub⟩ := ih (List.nodup_cons.mp nd).2 u q
      exact ⟨l', c', w', by omega, nd', fun x m => List.mem_cons_of_mem _ (sub x m)⟩
theorem WayL.simple {E : List T3} {g v c : Nat} {l : List Nat} (w : WayL E g v l c) : ∃ l' c', WayL E g v l' c' ∧ c' ≤ c ∧ l'.Nodup ∧ g ∉ l' := by
  induction w with
  | nil => exact ⟨[], 0, .nil, Nat.le_refl _, List.nodup_nil, by simp⟩
  | @cons a b p c l he w ih =>
    obtain ⟨l', c', w', le, nd, ng⟩ := ih
    by_cases hg : a = g
    · subst hg; exact ⟨[], 0, .nil, Nat.zero_le _, List.nodup_nil, by simp⟩
    · by_cases ha : a ∈ l'
      · obtain ⟨l2, c2, w2, le2, nd2, sub⟩ := w'.from nd a ha
        exact ⟨l2, c2, w2, by omega, nd2, fun m => ng (sub _ m)⟩
      · exact ⟨a :: l', p + c', .cons he w', by omega, List.nodup_cons.mpr ⟨ha, nd⟩, fun m => by
          rcases List.mem_cons.mp m with q | q
          · exact hg q.symm
          · exact ng q⟩
theorem WayL.lt {E : List T3} {g v c n : Nat} {l : List Nat} (w : WayL E g v l c) (hE : ∀ e ∈ E, e.1 < n) : ∀ x ∈ l, x < n := by
  induction w with
  | nil => intro x m; cases m
  | cons he _ ih =>
    intro x m
    rcases List.mem_cons.mp m with q | q
    · subst q; exact hE _ he
    · exact ih x q
theorem way_short {E : List T3} {g v k c n : Nat} (hE : ∀ e ∈ E, e.1 < n) (w : Way E g v k c) : ∃ k' c', k' ≤ n ∧ c' ≤ c ∧ Way E g v k' c' := by
  obtain ⟨l, wl, _⟩ := w.toL
  obtain ⟨l', c', w', le, nd, _⟩ := wl.simple
  exact ⟨l'.length, c', nodup_le n l' nd (w'.lt hE), le, w'.toW⟩
/-- what the list of least prices is -/
structure IsFar (E : List T3) (n g : Nat) (d : Dist) : Prop where
  len : d.length = n
  way : Sound E g d
  least : ∀ v k c, Way E g v k c → Le (at? d v) (some c)
theorem start_at (n g v : Nat) (hg : g < n) : at? (start n g) v = if v = g then some 0 else none := by
  unfold start
  rw [at_set _ _ _ _ (by simpa using hg)]
  split
  · rfl
  · unfold at?
    rw [List.getElem?_replicate]
    split <;> rfl
theorem far_is {E : List T3} {n g : Nat} (L : List T3) (h0 : ∀ e, e ∈ E ↔ e ∈ L) (hE : ∀ e ∈ E, e.1 < n) (hg : g < n) : IsFar E n g (rounds L n (start n g)) := by
  have hs : (start n g).length = n := by simp [start]
  have h := rounds_ok (E := E) (g := g) L h0 n 0 (start n g) (fun e m => by rw [hs]; exact hE e ((h0 e).mpr m))
    (fun v c h => by
      rw [start_at _ _ _ hg] at h
      split at h
      · rename_i q; subst q; cases h; exact ⟨0, .nil⟩
      · cases h)
    (fun v j c hj w => by
      have : j = 0 := by omega
      subst this
      cases w
      rw [start_at _ _ _ hg, if_pos rfl]
      exact Le.refl _)
  refine ⟨by rw [rounds_len, hs], h.1, fun v k c w => ?_⟩
  obtain ⟨k', c', hk, hc, w'⟩ := way_short hE w
  obtain ⟨z, e, l⟩ := h.2 v k' c' (by omega) w' _ rfl
  intro c2 e2
  cases e2
  exact ⟨z, e, by omega⟩
theorem far_one {E : List T3} {n g : Nat} {d d' : Dist} (h : IsFar E n g d) (h' : IsFar E n g d') : d = d' := by
  have key : ∀ v, at? d v = at? d' v := fun v => by
    cases e : at? d v with
    | none =>
      cases e' : at? d' v with
      | none => rfl
      | some c' =>
        obtain ⟨k, w⟩ := h'.way _ _ e'
        obtain ⟨z, ez, _⟩ := h.least _ _ _ w _ rfl
        rw [e] at ez; cases ez
    | some c =>
      obtain ⟨k, w⟩ := h.way _ _ e
      obtain ⟨z, ez, lz⟩ := h'.least _ _ _ w _ rfl
      obtain ⟨k2, w2⟩ := h'.way _ _ ez
      obtain ⟨z2, ez2, lz2⟩ := h.least _ _ _ w2 _ rfl
      rw [e] at ez2; cases ez2
      rw [ez]
      congr 1
      omega
  refine List.ext_getElem? fun i => ?_
  by_cases hi : i < n
  · have a1 : i < d.length := by rw [h.len]; exact hi
    have a2 : i < d'.length := by rw [h'.len]; exact hi
    have := key i
    unfold at? at this
    rw [List.getElem?_eq_getElem a1, List.getElem?_eq_getElem a2] at this ⊢
    simpa using this
  · rw [List.getElem?_eq_none (by rw [h.len]; omega), List.getElem?_eq_none (by rw [h'.len]; omega)]
theorem far_cong {E E' : List T3} {n g : Nat} {d : Dist} (he : ∀ e, e ∈ E ↔ e ∈ E') (h : IsFar E n g d) : IsFar E' n g d := by
  have tr : ∀ {A B : List T3}, (∀ e, e ∈ A → e ∈ B) → ∀ {v k c}, Way A g v k c → Way B g v k c := by
    intro A B hs v k c w
    induction w with
    | nil => exact .nil
    | cons m _ ih => exact .cons (hs _ m) ih
  exact ⟨h.len, fun v c e => by obtain ⟨k, w⟩ := h.way v c e; exact ⟨k, tr (fun e m => (he e).mp m) w⟩, fun v k c w => h.least v k c (tr (fun e m => (he e).mpr m) w)⟩
end Sw
namespace Sw
/-- u is a next house of h: just so much nearer -/
def Cand (E : List T3) (d : Dist) (h u : Nat) : Prop := ∃ c y, (h, u, c) ∈ E ∧ at? d u = some y ∧ at? d h = some (y + c)
def IsNext (E : List T3) (d : Dist) (g h : Nat) : Option Nat → Prop
  | none => h = g ∨ at? d h = none
  | some u => h ≠ g ∧ at? d h ≠ none ∧ Cand E d h u ∧ ∀ v, Cand E d h v → u ≤ v
theorem next_one {E : List T3} {d : Dist} {g h : Nat} : ∀ {x y : Option Nat}, IsNext E d g h x → IsNext E d g h y → x = y
  | none, none, _, _ => rfl
  | none, some u, h1, h2 => by
    rcases h1 with q | q
    · exact absurd q h2.1
    · exact absurd q h2.2.1
  | some u, none, h1, h2 => by
    rcases h2 with q | q
    · exact absurd q h1.1
    · exact absurd q h1.2.1
  | some u, some v, h1, h2 => by
    have a := h1.2.2.2 v h2.2.2.1
    have b := h2.2.2.2 u h1.2.2.1
    rw [Nat.le_antisymm a b]
theorem cand_cong {E E' : List T3} (he : ∀ e, e ∈ E ↔ e ∈ E') {d : Dist} {h u : Nat} : Cand E d h u ↔ Cand E' d h u :=
  ⟨fun ⟨c, y, a, b⟩ => ⟨c, y, (he _).mp a, b⟩, fun ⟨c, y, a, b⟩ => ⟨c, y, (he _).mpr a, b⟩⟩
theorem next_cong {E E' : List T3} (he : ∀ e, e ∈ E ↔ e ∈ E') {d : Dist} {g h : Nat} : ∀ {x : Option Nat}, IsNext E d g h x → IsNext E' d g h x
  | none, a => a
  | some u, a => ⟨a.1, a.2.1, (cand_cong he).mp a.2.2.1, fun v hv => a.2.2.2 v ((cand_cong he).mpr hv)⟩
theorem far_goal {E : List T3} {n g : Nat} {d : Dist} (f : IsFar E n g d) : at? d g = some 0 := by
  obtain ⟨c, e, l⟩ := f.least g 0 0 .nil 0 rfl
  rw [e]
  congr 1
  omega
theorem cand_ex {E : List T3} {n g h c : Nat} {d : Dist} (f : IsFar E n g d) (hg : h ≠ g) (hc : at? d h = some c) : ∃ u, Cand E d h u := by
  obtain ⟨k, w⟩ := f.way h c hc
  cases w with
  | nil => exact absurd rfl hg
  | @cons _ u p k' c' he w' =>
    obtain ⟨y, ey, ly⟩ := f.least u k' c' w' _ rfl
    obtain ⟨k2, w2⟩ := f.way u y ey
    obtain ⟨z, ez, lz⟩ := f.least h (k2 + 1) (p + y) (.cons he w2) _ rfl
    rw [hc] at ez
    cases ez
    refine ⟨u, p, y, he, ey, ?_⟩
    rw [hc]
    congr 1
    omega
theorem near_some {E : List T3} {n g h u c : Nat} {d : Dist} (f : IsFar E n g d) (hs : ∀ a b c, (a, b, c) ∈ E → (b, a, c) ∈ E) (he : (h, u, c) ∈ E) (hh : at? d h ≠ none) : ∃ y, at? d u = some y := by
  cases e : at? d h with
  | none => exact absurd e hh
  | some z =>
    obtain ⟨k, w⟩ := f.way h z e
    obtain ⟨y, ey, _⟩ := f.least u (k + 1) (c + z) (.cons (hs _ _ _ he) w) _ rfl
    exact ⟨y, ey⟩
/-- whether a neighbour (house, price) is just so much nearer -/
def test (d : Dist) (h : Nat) (q : Nat × Nat) : Bool := match at? d q.1 with
  | some y => decide (at? d h = some (y + q.2))
  | none => false
def candL (d : Dist) (h : Nat) (L : List (Nat × Nat)) : List Nat := (L.filter (test d h)).map (·.1)
theorem candL_mem {E : List T3} {d : Dist} {h : Nat} {L : List (Nat × Nat)} (hL : ∀ u c, (u, c) ∈ L ↔ (h, u, c) ∈ E) (u : Nat) : u ∈ candL d h L ↔ Cand E d h u := by
  unfold candL
  rw [List.mem_map]
  constructor
  · rintro ⟨q, hq, rfl⟩
    obtain ⟨m, t⟩ := List.mem_filter.mp hq
    unfold test at t
    cases e : at? d q.1 with
    | none => rw [e] at t; cases t
    | some y =>
      rw [e] at t
      exact ⟨q.2, y, (hL _ _).mp m, e, of_decide_eq_true t⟩
  · rintro ⟨c, y, m, e, t⟩
    refine ⟨(u, c), List.mem_filter.mpr ⟨(hL _ _).mpr m, ?_⟩, rfl⟩
    unfold test
    rw [e]
    exact decide_eq_true t
def nbr (ts : List T3) (h : Nat) : List (Nat × Nat) := ts.flatMap fun e => (if e.1 = h then [(e.2.1, e.2.2)] else []) ++ (if e.2.1 = h then [(e.1, e.2.2)] else [])
theorem nbr_mem (ts : List T3) (h u c : Nat) : (u, c) ∈ nbr ts h ↔ ((h, u, c) ∈ ts ∨ (u, h, c) ∈ ts) := by
  unfold nbr
  rw [List.mem_flatMap]
  constructor
  · rintro ⟨⟨a, b, p⟩, m, q⟩
    rcases List.mem_append.mp q with q | q
    · split at q
      · rename_i e; simp at q e; obtain ⟨rfl, rfl⟩ := q; subst e; exact .inl m
      · cases q
    · split at q
      · rename_i e; simp at q e; obtain ⟨rfl, rfl⟩ := q; subst e; exact .inr m
      · cases q
  · rintro (m | m)
    · exact ⟨_, m, by simp⟩
    · exact ⟨_, m, by simp⟩
theorem nbr_snoc (ts : List T3) (e : T3) (h : Nat) : nbr (ts ++ [e]) h = nbr ts h ++ ((if e.1 = h then [(e.2.1, e.2.2)] else []) ++ (if e.2.1 = h then [(e.1, e.2.2)] else [])) := by
  unfold nbr
  rw [List.flatMap_append]
  simp
theorem nbr_len (ts : List T3) (h : Nat) : (nbr ts h).length ≤ 2 * ts.length := by
  induction ts with
  | nil => simp [nbr]
  | cons e ts ih =>
    have : nbr (e :: ts) h = ((if e.1 = h then [(e.2.1, e.2.2)] else []) ++ (if e.2.1 = h then [(e.1, e.2.2)] else [])) ++ nbr ts h := rfl
    rw [this, List.length_append, List.length_append]
    have h1 : (if e.1 = h then [(e.2.1, e.2.2)] else []).length ≤ 1 := by split <;> simp
    have h2 : (if e.2.1 = h then [(e.1, e.2.2)] else []).length ≤ 1 := by split <;> simp
    simp only [List.length_cons]
    omega
theorem candL_snoc (d : Dist) (h : Nat) (L : List (Nat × Nat)) (q : Nat × Nat) : candL d h (L ++ [q]) = candL d h L ++ (if test d h q = true then [q.1] else []) := by
  unfold candL
  rw [List.filter_append, List.map_append]
  congr 1
  simp only [List.filter_cons, List.filter_nil]
  split <;> rfl
theorem candL_len (d : Dist) (h : Nat) (L : List (Nat × Nat)) : (candL d h L).length ≤ L.length := by
  unfold candL
  rw [List.length_map]
  exact List.length_filter_le _ _
end Sw
namespace Sw
def fl1 (ts : List T3) (h : Nat) : List (Nat × Nat) := ts.flatMap fun e => if e.1 = h then [(e.2.1, e.2.2)] else []
def fl2 (ts : List T3) (h : Nat) : List (Nat × Nat) := ts.flatMap fun e => if e.2.1 = h then [(e.1, e.2.2)] else []
theorem fl1_snoc (ts : List T3) (e : T3) (h : Nat) : fl1 (ts ++ [e]) h = fl1 ts h ++ (if e.1 = h then [(e.2.1, e.2.2)] else []) := by
  unfold fl1; rw [List.flatMap_append]; simp
theorem fl2_snoc (ts : List T3) (e : T3) (h : Nat) : fl2 (ts ++ [e]) h = fl2 ts h ++ (if e.2.1 = h then [(e.1, e.2.2)] else []) := by
  unfold fl2; rw [List.flatMap_append]; simp
theorem fl_mem (ts : List T3) (h u c : Nat) : (u, c) ∈ fl1 ts h ++ fl2 ts h ↔ ((h, u, c) ∈ ts ∨ (u, h, c) ∈ ts) := by
  rw [List.mem_append]
  unfold fl1 fl2
  rw [List.mem_flatMap, List.mem_flatMap]
  constructor
  · rintro (⟨⟨a, b, p⟩, m, q⟩ | ⟨⟨a, b, p⟩, m, q⟩)
    · split at q
      · rename_i e; simp at q e; obtain ⟨rfl, rfl⟩ := q; subst e; exact .inl m
      · cases q
    · split at q
      · rename_i e; simp at q e; obtain ⟨rfl, rfl⟩ := q; subst e; exact .inr m
      · cases q
  · rintro (m | m)
    · exact .inl ⟨_, m, by simp⟩
    · exact .inr ⟨_, m, by simp⟩
theorem fl1_len (ts : List T3) (h : Nat) : (fl1 ts h).length ≤ ts.length := by
  induction ts with
  | nil => simp [fl1]
  | cons e ts ih =>
    have : fl1 (e :: ts) h = (if e.1 = h then [(e.2.1, e.2.2)] else []) ++ fl1 ts h := rfl
    rw [this, List.length_append]
    have h1 : (if e.1 = h then [(e.2.1, e.2.2)] else []).length ≤ 1 := by split <;> simp
    simp only [List.length_cons]
    omega
theorem fl2_len (ts : List T3) (h : Nat) : (fl2 ts h).length ≤ ts.length := by
  induction ts with
  | nil => simp [fl2]
  | cons e ts ih =>
    have : fl2 (e :: ts) h = (if e.2.1 = h then [(e.1, e.2.2)] else []) ++ fl2 ts h := rfl
    rw [this, List.length_append]
    have h1 : (if e.2.1 = h then [(e.1, e.2.2)] else []).length ≤ 1 := by split <;> simp
    simp only [List.length_cons]
    omega
end Sw
namespace Sw
/-- the told way, house by house -/
inductive WayTo (E : List T3) (d : Dist) (g : Nat) : Nat → List Nat → Prop
  | here : WayTo E d g g [g]
  | step {h u : Nat} {l : List Nat} : IsNext E d g h (some u) → WayTo E d g u l → WayTo E d g h (h :: l)
theorem wayto_one {E : List T3} {d : Dist} {g h : Nat} {l l' : List Nat} (a : WayTo E d g h l) (b : WayTo E d g h l') : l = l' := by
  induction a generalizing l' with
  | here =>
    cases b with
    | here => rfl
    | step i _ => exact absurd rfl i.1
  | step i _ ih =>
    cases b with
    | here => exact absurd rfl i.1
    | step j r =>
      have e := next_one i j
      cases e
      rw [ih r]
theorem way_cost {E : List T3} {g v k c : Nat} (h : ∀ e ∈ E, e.2.2 ≤ 9) (w : Way E g v k c) : c ≤ 9 * k := by
  induction w with
  | nil => exact Nat.le_refl _
  | cons he _ ih =>
    have := h _ he
    simp only at this
    omega
theorem far_small {E : List T3} {n g v c : Nat} {d : Dist} (f : IsFar E n g d) (hE : ∀ e ∈ E, e.1 < n) (h9 : ∀ e ∈ E, e.2.2 ≤ 9) (e : at? d v = some c) : c ≤ 9 * n := by
  obtain ⟨k, w⟩ := f.way v c e
  obtain ⟨k', c', hk, hc, w'⟩ := way_short hE w
  obtain ⟨z, ez, lz⟩ := f.least v k' c' w' _ rfl
  rw [e] at ez
  cases ez
  have := way_cost h9 w'
  have : 9 * k' ≤ 9 * n := Nat.mul_le_mul_left 9 hk
  omega
/-- all houses that a list of prices reaches, rising -/
def lotOf (n : Nat) (d : Dist) : List Nat := (List.range n).filter fun h => (at? d h).isSome
end Sw

namespace K
open PySem PySem.Spec PyProof.Rows L2
/-- all but p stands as it stood -/
def But (p : Addr) (H H' : Hp) : Prop := ∀ b o, H b = some o → b ≠ p → H' b = some o
theorem But.refl (p : Addr) (H : Hp) : But p H H := fun _ _ e _ => e
theorem But.trans {p : Addr} {H H1 H2 : Hp} (a : But p H H1) (b : But p H1 H2) : But p H H2 := fun c o e hc => b c o (a c o e hc) hc
theorem But.of_same {p : Addr} {H H' : Hp} (s : Same H H') : But p H H' := fun b o e _ => s b o e
theorem But.put {p : Addr} {H : Hp} {o : HO} : But p H (upd H p o) := fun b u e hb => by rw [upd_ne hb]; exact e
theorem same_upd {H : Hp} {p : Addr} {o : HO} (h : H p = none) : Same H (upd H p o) := fun b x e => by
  rw [upd_ne (ne_of_none e h)]
  exact e
/-- the box of the draws at p, its list of cells at q -/
def BoxAt (H : Hp) (p q : Addr) : Prop := ∃ (ns : List Int) (i t s : Int), H p = some (.lst [.ref q, .int i, .int t, .int s]) ∧ H q = some (.lst (ns.map V.int)) ∧ 0 ≤ i ∧ i ≤ ns.length ∧ 0 ≤ s ∧ s < 2147483549 ∧ ns.length ≤ 63
theorem BoxAt.ne {H : Hp} {p q : Addr} (h : BoxAt H p q) : p ≠ q := by
  obtain ⟨ns, i, t, s, h1, h2, _⟩ := h
  refine ne_of h1 h2 fun e => ?_
  cases ns with
  | nil => cases e
  | cons n ns => injection e with e; injection e with e1 e2; cases e1
theorem BoxAt.at {H H' : Hp} {p q : Addr} (h : BoxAt H p q) (h1 : ∀ o, H p = some o → H' p = some o) (h2 : ∀ o, H q = some o → H' q = some o) : BoxAt H' p q := by
  obtain ⟨ns, i, t, s, e1, e2, r⟩ := h
  exact ⟨ns, i, t, s, h1 _ e1, h2 _ e2, r⟩
theorem BoxAt.same {H H' : Hp} {p q : Addr} (h : BoxAt H p q) (s : Same H H') : BoxAt H' p q := h.at (fun o e => s _ o e) (fun o e => s _ o e)
theorem BoxAt.p_some {H : Hp} {p q : Addr} (h : BoxAt H p q) : ∃ o, H p = some o := by
  obtain ⟨ns, i, t, s, e1, e2, r⟩ := h
  exact ⟨_, e1⟩
theorem BoxAt.q_some {H : Hp} {p q : Addr} (h : BoxAt H p q) : ∃ o, H q = some o := by
  obtain ⟨ns, i, t, s, e1, e2, r⟩ := h
  exact ⟨_, e2⟩
/-- another object than the box's own two is written -/
theorem BoxAt.put {H : Hp} {p q l : Addr} {o : HO} (h : BoxAt H p q) (hp : l ≠ p) (hq : l ≠ q) : BoxAt (upd H l o) p q :=
  h.at (fun o e => by rw [upd_ne (Ne.symm hp)]; exact e) (fun o e => by rw [upd_ne (Ne.symm hq)]; exact e)
theorem BoxAt.putN {H : Hp} {p q l : Addr} {o : HO} (h : BoxAt H p q) (hl : H l = none) : BoxAt (upd H l o) p q := h.same (same_upd hl)
theorem fmod_le {a n : Int} (hn : 0 < n) : 0 ≤ a.fmod n ∧ a.fmod n < n := by
  rw [Int.fmod_eq_emod_of_nonneg _ (Int.le_of_lt hn)]
  exact ⟨Int.emod_nonneg _ (by omega), Int.emod_lt_of_pos _ hn⟩
/-- _law_box(script) -/
def spBox (K : PySem.W.Frag) : Sp := fun vs H Q _ => ∃ (a : Addr) (ns : List Int), vs = [.ref a] ∧ SqL K H a (ns.map V.int) ∧ ns.length ≤ 63 ∧ ∀ (p q : Addr) (H' : Hp), H p = none → H q = none → BoxAt H' p q → Same H H' → Q (.ref p) H'
/-- _law_take(box, sides): a number below sides; the box is a box again -/
def spTake : Sp := fun vs H Q _ => ∃ (p q : Addr) (n : Int), vs = [.ref p, .int n] ∧ BoxAt H p q ∧ 0 < n ∧ n < 1073741824 ∧ ∀ (r : Int) (H' : Hp), 0 ≤ r → r < n → BoxAt H' p q → But p H H' → Q (.int r) H'
theorem atI0 {α : Type} {xs : List α} {i : Int} {v : α} (h0 : 0 ≤ i) (h : xs[i.toNat]? = some v) : atI xs i = some v := by
  have := atI_nat (j := i.toNat) h
  rwa [Int.toNat_of_nonneg h0] at this
end K
namespace K
open PySem PySem.Spec PyProof.Rows L2
/-- None, bools, ints, texts -/
def flat : V → Bool
  | .non | .bl _ | .int _ | .str _ => true
  | _ => false
/-- the same data, of less than n levels -/
def Eqv : Nat → Hp → V → V → Prop
  | 0, _, _, _ => False
  | n + 1, H, x, y => (x = y ∧ flat x = true) ∨ ∃ (a b : Addr) (xs ys : List V), x = .ref a ∧ y = .ref b ∧ ((H a = some (.lst xs) ∧ H b = some (.lst ys)) ∨ (H a = some (.tup xs) ∧ H b = some (.tup ys))) ∧ xs.length = ys.length ∧ xs.length ≤ 1000 ∧
      ∀ (i : Nat) (u v : V), xs[i]? = some u → ys[i]? = some v → Eqv n H u v
theorem Eqv.same {H H' : Hp} (s : Same H H') : ∀ {n : Nat} {x y : V}, Eqv n H x y → Eqv n H' x y
  | n + 1, x, y, h => by
    rcases h with h | ⟨a, b, xs, ys, e1, e2, h, hl, hz, hi⟩
    · exact .inl h
    · refine .inr ⟨a, b, xs, ys, e1, e2, ?_, hl, hz, fun i u v hu hv => (hi i u v hu hv).same s⟩
      rcases h with ⟨h1, h2⟩ | ⟨h1, h2⟩
      · exact .inl ⟨s _ _ h1, s _ _ h2⟩
      · exact .inr ⟨s _ _ h1, s _ _ h2⟩
def spSame (n : Nat) : Sp := fun vs H Q _ => ∃ (x y : V), vs = [x, y] ∧ Eqv n H x y ∧ ∀ H', Same H H' → Q (.bl true) H'
theorem kit2 {K : PySem.W.Frag} {t T U : String} {b c : Bool} (h : kitB t T = some b) (h2 : kitB t U = some c) : PySem.W.kitAny K (.type t) [.type T, .type U] = some (b || c) := by
  refine kitAny_cons (kit_ty h) (fun e => ?_) (fun e => by rw [e]; rfl)
  subst e
  refine kitAny_cons (kit_ty h2) (fun e => ?_) (fun e => by rw [e]; rfl)
  subst e
  exact kitAny_nil
theorem walk_zipTT {K : PySem.W.Frag} {a b : Addr} {xs ys : List V} {n : Nat} (hn : n = min xs.length ys.length) : Walk (RZ.ItzT K a b) n (fun H => SqT K H a xs ∧ SqT K H b ys) (YPair (fun i => xs[i]?) (fun i => ys[i]?)) := by
  subst hn
  refine ⟨fun i _ hi q => ?_, fun _ q => ⟨xs, ys, q.1, q.2, by omega⟩, fun i H v H' _ q y => ?_⟩
  · have h1 : i < xs.length := by omega
    have h2 : i < ys.length := by omega
    exact ⟨xs, ys, xs[i], ys[i], q.1, q.2, by simp [h1], by simp [h2]⟩
  · obtain ⟨T, x, z, h1, h2, h3, h4, h5⟩ := y
    exact ⟨T, x, z, h1, h2, h3, h4 xs q.1, h5 ys q.2⟩
theorem fnok_never {P : Program} {w : World} {K : PySem.W.Frag} {mg : Str → Option Value} {base : Heap} {f : Addr} {fd : FuncData} {ps : List Str} {sp : Sp} {k : Nat} (h : ∀ vs H Q E, ¬ sp vs H Q E) : FnOk P w K mg base CX0 k f fd ps sp :=
  ⟨fun vs H Q E q => (h _ _ _ _ q).elim, fun A outer s H args us vs Q E hr he hb hv hs => (h _ _ _ _ hs).elim⟩
end K
namespace K
open PySem PySem.Spec PyProof.Rows L2
open Sw (T3 Dist at? relax roundOf rounds)
/-- a tie as it stands in a tuple -/
def tv (e : T3) : List V := [.int (e.1 : Nat), .int (e.2.1 : Nat), .int (e.2.2 : Nat)]
/-- a list of ties -/
def TiesAt (H : Hp) (t : Addr) (ts : List T3) : Prop := ∃ as : List Addr, H t = some (.lst (as.map V.ref)) ∧ Paired (fun a e => H a = some (.tup (tv e))) as ts
theorem paired_mono {α β : Type} {R R' : α → β → Prop} (h : ∀ a b, R a b → R' a b) : ∀ {xs : List α} {ys : List β}, Paired R xs ys → Paired R' xs ys
  | _, _, .nil => .nil
  | _, _, .cons r t => .cons (h _ _ r) (paired_mono h t)
theorem paired_len {α β : Type} {R : α → β → Prop} : ∀ {xs : List α} {ys : List β}, Paired R xs ys → xs.length = ys.length
  | _, _, .nil => rfl
  | _, _, .cons r t => by simp [paired_len t]
theorem TiesAt.same {H H' : Hp} {t : Addr} {ts : List T3} (h : TiesAt H t ts) (s : Same H H') : TiesAt H' t ts := by
  obtain ⟨as, h1, h2⟩ := h
  exact ⟨as, s _ _ h1, paired_mono (fun a e q => s _ _ q) h2⟩
/-- a price or None -/
def ov : Option Nat → V
  | none => .non
  | some n => .int (n : Nat)
/-- a list of prices stands at p -/
def DistAt (H : Hp) (p : Addr) (d : Dist) : Prop := H p = some (.lst (d.map ov))
theorem at_of {d : Dist} {v : Nat} (h : v < d.length) : (d.map ov)[v]? = some (ov (at? d v)) := by
  rw [List.getElem?_map, List.getElem?_eq_getElem h]
  unfold at?
  rw [List.getElem?_eq_getElem h]
  rfl
theorem set_ov (d : Dist) (v : Nat) (x : Option Nat) : (d.map ov).set v (ov x) = (d.set v x).map ov := by rw [List.map_set]
theorem ixN_nat {n j : Nat} (h : j < n) : ixN n (j : Int) = some j := by
  unfold ixN
  rw [if_pos (by omega), if_pos (by omega), Int.toNat_natCast]
/-- the ties both ways about, tie by tie -/
def both (ts : List T3) : List T3 := ts.flatMap fun e => [e, (e.2.1, e.1, e.2.2)]
theorem both_mem (ts : List T3) (e : T3) : e ∈ both ts ↔ (e ∈ ts ∨ (e.2.1, e.1, e.2.2) ∈ ts) := by
  unfold both
  rw [List.mem_flatMap]
  constructor
  · rintro ⟨x, hx, m⟩
    simp only [List.mem_cons, List.not_mem_nil, or_false] at m
    rcases m with q | q
    · exact .inl (q ▸ hx)
    · subst q; exact .inr hx
  · rintro (h | h)
    · exact ⟨e, h, by simp⟩
    · exact ⟨_, h, by simp⟩
/-- the least prices, as they are reckoned tie by tie -/
def farD (n : Nat) (ts : List T3) (g : Nat) : Dist := rounds (both ts) n (Sw.start n g)
/-- the ties lie below n -/
def Fits (n : Nat) (ts : List T3) : Prop := ∀ e ∈ ts, e.1 < n ∧ e.2.1 < n
theorem both_lt {n : Nat} {ts : List T3} (h : Fits n ts) : ∀ e ∈ both ts, e.1 < n ∧ e.2.1 < n := fun e m => by
  rcases (both_mem ts e).mp m with q | q
  · exact h e q
  · have := h _ q
    exact ⟨this.2, this.1⟩
theorem farD_is {n g : Nat} {ts : List T3} (h : Fits n ts) (hg : g < n) : Sw.IsFar (both ts) n g (farD n ts g) := Sw.far_is (both ts) (fun _ => Iff.rfl) (fun e m => (both_lt h e m).1) hg
def spCheck : Sp := fun vs H Q _ => ∃ (n g : Nat), vs = [.int (n : Nat), .int (g : Nat)] ∧ g < n ∧ Q .non H
def spCheap : Sp := fun vs H Q _ => ∃ (p : Addr) (d : Dist) (a b c : Nat), vs = [.ref p, .int (a : Nat), .int (b : Nat), .int (c : Nat)] ∧ DistAt H p d ∧ a < d.length ∧ b < d.length ∧ ∀ H', DistAt H' p (relax d (a, b, c)) → But p H H' → Q .non H'
def spFar : Sp := fun vs H Q _ => ∃ (n g : Nat) (t : Addr) (ts : List T3), vs = [.int (n : Nat), .ref t, .int (g : Nat)] ∧ g < n ∧ n ≤ 1000 ∧ TiesAt H t ts ∧ Fits n ts ∧ ∀ p H', H p = none → Same H H' → DistAt H' p (farD n ts g) → Q (.ref p) H'
end K
namespace K
open PySem PySem.Spec PyProof.Rows L2
open Sw (T3 Dist at? relax roundOf rounds)
/-- a row of pairs of houses, below n, the lesser one first -/
def PairsV (H : Hp) (n : Nat) (xs : List V) : Prop := ∃ (as : List Addr) (ps : List (Nat × Nat)), xs = as.map V.ref ∧ Paired (fun a p => H a = some (.tup [.int (p.1 : Nat), .int (p.2 : Nat)])) as ps ∧ ∀ p ∈ ps, p.1 < p.2 ∧ p.2 < n
theorem PairsV.at {H H' : Hp} {n : Nat} {xs : List V} (h : PairsV H n xs) (k : ∀ a ys, H a = some (.tup ys) → H' a = some (.tup ys)) : PairsV H' n xs := by
  obtain ⟨as, ps, e, h1, h2⟩ := h
  exact ⟨as, ps, e, paired_mono (fun a p q => k _ _ q) h1, h2⟩
theorem PairsV.nil {H : Hp} {n : Nat} : PairsV H n [] := ⟨[], [], rfl, .nil, fun p m => by cases m⟩
theorem paired_append {α β : Type} {R : α → β → Prop} : ∀ {xs xs' : List α} {ys ys' : List β}, Paired R xs ys → Paired R xs' ys' → Paired R (xs ++ xs') (ys ++ ys')
  | _, _, _, _, .nil, s => s
  | _, _, _, _, .cons r t, s => .cons r (paired_append t s)
theorem PairsV.append {H : Hp} {n : Nat} {xs ys : List V} (h : PairsV H n xs) (h' : PairsV H n ys) : PairsV H n (xs ++ ys) := by
  obtain ⟨as, ps, rfl, h1, h2⟩ := h
  obtain ⟨as', ps', rfl, h1', h2'⟩ := h'
  refine ⟨as ++ as', ps ++ ps', by rw [List.map_append], paired_append h1 h1', fun p m => ?_⟩
  rcases List.mem_append.mp m with q | q
  · exact h2 p q
  · exact h2' p q
theorem PairsV.one {H : Hp} {n i j : Nat} {a : Addr} (h : H a = some (.tup [.int (i : Nat), .int (j : Nat)])) (h1 : i < j) (h2 : j < n) : PairsV H n [.ref a] :=
  ⟨[a], [(i, j)], rfl, .cons h .nil, fun p m => by simp at m; subst m; exact ⟨h1, h2⟩⟩
theorem PairsV.flat {H : Hp} {n : Nat} : ∀ {xss : List (List V)}, (∀ xs ∈ xss, PairsV H n xs) → PairsV H n xss.flatten
  | [], _ => PairsV.nil
  | xs :: xss, h => (h xs List.mem_cons_self).append (PairsV.flat fun ys m => h ys (List.mem_cons_of_mem _ m))
theorem flat_len {α : Type} {n : Nat} : ∀ {xss : List (List α)}, (∀ xs ∈ xss, xs.length ≤ n) → xss.flatten.length ≤ xss.length * n
  | [], _ => by simp
  | xs :: xss, h => by
    have h1 := h xs List.mem_cons_self
    have h2 := flat_len (xss := xss) fun ys m => h ys (List.mem_cons_of_mem _ m)
    rw [List.flatten_cons, List.length_append, List.length_cons, Nat.succ_mul]
    omega
/-- good ties below n -/
def Good (n : Nat) (ts : List T3) : Prop := ∀ e ∈ ts, e.1 < e.2.1 ∧ e.2.1 < n ∧ 1 ≤ e.2.2 ∧ e.2.2 ≤ 9
theorem Good.fits {n : Nat} {ts : List T3} (h : Good n ts) : Fits n ts := fun e m => by have := h e m; omega
def spPairs : Sp := fun vs H Q _ => ∃ n : Nat, vs = [.int (n : Nat)] ∧ 0 < n ∧ n ≤ 8 ∧ ∀ (p : Addr) (H' : Hp) (xs : List V), H p = none → Same H H' → H' p = some (.lst xs) → PairsV H' n xs → xs.length ≤ 64 → Q (.ref p) H'
def spShuf : Sp := fun vs H Q _ => ∃ (p q t : Addr) (xs : List V), vs = [.ref p, .ref t] ∧ BoxAt H p q ∧ t ≠ p ∧ H t = some (.lst xs) ∧ xs.length ≤ 1000 ∧ ∀ (r : Addr) (H' : Hp) (ys : List V), H r = none → BoxAt H' p q → But p H H' → H' r = some (.lst ys) → ys.Perm xs → Q (.ref r) H'
def spSome : Sp := fun vs H Q _ => ∃ (p q : Addr) (n : Nat) (o : Int), vs = [.ref p, .int (n : Nat), .int o] ∧ BoxAt H p q ∧ 0 < n ∧ n ≤ 8 ∧ ∀ (r : Addr) (H' : Hp) (ts : List T3), H r = none → BoxAt H' p q → But p H H' → TiesAt H' r ts → Good n ts → ts.length ≤ 14 → Q (.ref r) H'
end K
namespace K
open PySem PySem.Spec PyProof.Rows L2
open Sw (T3 Dist at? relax roundOf rounds)
def tupData (e : T3) : PyData := .tuple [.int (e.1 : Nat), .int (e.2.1 : Nat), .int (e.2.2 : Nat)]
def tieData (ts : List T3) : PyData := .list (ts.map tupData)
theorem dp_ties {K : PySem.W.Frag} {H : Hp} {t : Addr} {ts : List T3} (h : TiesAt H t ts) : Dp K H (.ref t) (tieData ts) := by
  obtain ⟨as, h1, h2⟩ := h
  refine .lst (SqL.of h1) ?_
  clear h1
  induction h2 with
  | nil => exact .nil
  | cons r _ ih => exact .cons (.tup (SqT.of r) (.cons (.int _) (.cons (.int _) (.cons (.int _) .nil)))) ih
theorem lay_ties (ts : List T3) : PyData.canLayAll0 (ts.map tupData) = true := by
  induction ts with
  | nil => simp [PyData.canLayAll0]
  | cons e ts ih => simp [PyData.canLayAll0, PyData.canLay0, tupData, ih]
theorem depth_ties (ts : List T3) : PyData.depthAll (ts.map tupData) ≤ 2 := by
  induction ts with
  | nil => simp [PyData.depthAll]
  | cons e ts ih =>
    have h1 : (tupData e).depth ≤ 2 := by simp [tupData, PyData.depth, PyData.depthAll]
    simp only [List.map_cons, PyData.depthAll]
    omega
theorem shaped_ties (ts : List T3) : SeqAt.shaped (tieData ts) = true := by
  unfold SeqAt.shaped tieData
  have h1 := lay_ties ts
  have h2 := depth_ties ts
  have h3 : (PyData.list (ts.map tupData)).canLay0 = true := by simpa [PyData.canLay0] using h1
  have h4 : (PyData.list (ts.map tupData)).depth ≤ 64 := by
    have e : (PyData.list (ts.map tupData)).depth = PyData.depthAll (ts.map tupData) + 1 := by simp [PyData.depth, Nat.add_comm]
    omega
  rw [h3, decide_eq_true h4]
  rfl
/-- the law's own going round -/
def swp (e : T3) : T3 := (e.2.1, e.1, e.2.2)
def lfarD (n : Nat) (ts : List T3) (g : Nat) : Dist := rounds (ts ++ ts.map swp) n (Sw.start n g)
theorem lfar_mem (ts : List T3) (e : T3) : e ∈ both ts ↔ e ∈ ts ++ ts.map swp := by
  rw [both_mem, List.mem_append, List.mem_map]
  constructor
  · rintro (h | h)
    · exact .inl h
    · exact .inr ⟨_, h, rfl⟩
  · rintro (h | ⟨x, hx, rfl⟩)
    · exact .inl h
    · exact .inr hx
theorem lfarD_is {n g : Nat} {ts : List T3} (h : Fits n ts) (hg : g < n) : Sw.IsFar (both ts) n g (lfarD n ts g) := Sw.far_is _ (lfar_mem ts) (fun e m => (both_lt h e m).1) hg
theorem far_lfar {n g : Nat} {ts : List T3} (h : Fits n ts) (hg : g < n) : lfarD n ts g = farD n ts g := Sw.far_one (lfarD_is h hg) (farD_is h hg)
def spLFar : Sp := fun vs H Q _ => ∃ (n g : Nat) (t : Addr) (ts : List T3), vs = [.int (n : Nat), .ref t, .int (g : Nat)] ∧ g < n ∧ n ≤ 1000 ∧ TiesAt H t ts ∧ ts.length ≤ 400 ∧ Fits n ts ∧ ∀ p H', H p = none → Same H H' → DistAt H' p (lfarD n ts g) → Q (.ref p) H'
theorem ov_flat (x : Option Nat) : flat (ov x) = true := by cases x <;> rfl
theorem eqv_dist {H : Hp} {a b : Addr} {d : Dist} {m : Nat} (h1 : DistAt H a d) (h2 : DistAt H b d) (hl : d.length ≤ 1000) : Eqv (m + 2) H (.ref a) (.ref b) := by
  refine .inr ⟨a, b, _, _, rfl, rfl, .inl ⟨h1, h2⟩, rfl, by rw [List.length_map]; exact hl, fun i u v hu hv => ?_⟩
  rw [hu] at hv
  cases hv
  rw [List.getElem?_map] at hu
  obtain ⟨x, _, rfl⟩ := Option.map_eq_some_iff.mp hu
  exact .inl ⟨rfl, ov_flat x⟩
/-- the law: a list of at most 63 ints is handed in, True comes out -/
def spLaw (K : PySem.W.Frag) : Sp := fun vs H Q _ => ∃ (a : Addr) (ns : List Int), vs = [.ref a] ∧ SqL K H a (ns.map V.int) ∧ ns.length ≤ 63 ∧ ∀ H', Q (.bl true) H'
theorem paired_pick {α β : Type} {R : α → β → Prop} : ∀ {xs : List α} {ys : List β}, Paired R xs ys → ∀ xs' : List α, (∀ x ∈ xs', x ∈ xs) → ∃ ys' : List β, Paired R xs' ys' ∧ ∀ y ∈ ys', y ∈ ys
  | xs, ys, h, [], _ => ⟨[], .nil, fun y m => by cases m⟩
  | xs, ys, h, x :: xs', hs => by
    obtain ⟨i, hi, e⟩ := List.getElem_of_mem (hs x List.mem_cons_self)
    obtain ⟨y, ey, r⟩ := paired_at h i x (by rw [List.getElem?_eq_getElem hi, e])
    obtain ⟨ys', h1, h2⟩ := paired_pick h xs' fun z m => hs z (List.mem_cons_of_mem _ m)
    refine ⟨y :: ys', .cons r h1, fun z m => ?_⟩
    rcases List.mem_cons.mp m with q | q
    · subst q; exact List.mem_of_getElem? ey
    · exact h2 z q
theorem perm_refs {as : List Addr} {ys : List V} (h : ys.Perm (as.map V.ref)) : ∃ bs : List Addr, ys = bs.map V.ref ∧ bs.Perm as := by
  have hm : ∀ y ∈ ys, ∃ b, y = V.ref b := fun y m => by
    obtain ⟨b, _, e⟩ := List.mem_map.mp (h.mem_iff.mp m)
    exact ⟨b, e.symm⟩
  have key : ∀ zs : List V, (∀ y ∈ zs, ∃ b, y = V.ref b) → ∃ bs : List Addr, zs = bs.map V.ref := by
    intro zs
    induction zs with
    | nil => intro _; exact ⟨[], rfl⟩
    | cons z zs ih =>
      intro hz
      obtain ⟨b, e⟩ := hz z List.mem_cons_self
      obtain ⟨bs, e2⟩ := ih fun y m => hz y (List.mem_cons_of_mem _ m)
      exact ⟨b :: bs, by rw [e, e2]; rfl⟩
  obtain ⟨bs, e⟩ := key ys hm
  refine ⟨bs, e, ?_⟩
  rw [e] at h
  have h2 := h.map (fun v => match v with | V.ref a => a | _ => 0)
  rw [List.map_map, List.map_map] at h2
  have e1 : ∀ l : List Addr, l.map ((fun v => match v with | V.ref a => a | _ => 0) ∘ V.ref) = l := fun l => by
    induction l with
    | nil => rfl
    | cons x l ih => rw [List.map_cons, ih]; rfl
  rw [e1, e1] at h2
  exact h2
end K

namespace K
open PySem PySem.Spec PyProof.Rows L2
/-- a def that can be called: its promise, its name, its place, how its arguments bind -/
structure Cal (P : Program) (w : World) (K : PySem.W.Frag) (mg : Str → Option Value) (base : Heap) (k : Nat) (x : Str) (f : Addr) (fd : FuncData) (ps : List Str) (sp : Sp) : Prop where
  ok : FnOk P w K mg base CX0 k f fd ps sp
  g : mg x = some (.ref f)
  kp : PySem.W.keepIn K (.ref f) = true
  b : Binds K fd ps []
/-- the built-in names that the text reads stand for the built-in things -/
structure BT (mg : Str → Option Value) : Prop where
  len : mg "len" = none
  range : mg "range" = none
  list : mg "list" = none
  tuple : mg "tuple" = none
  isinstance : mg "isinstance" = none
  bool : mg "bool" = none
  int : mg "int" = none
  str : mg "str" = none
  all : mg "all" = none
  zip : mg "zip" = none
  sum : mg "sum" = none
  min : mg "min" = none
  sorted : mg "sorted" = none
  abs : mg "abs" = none
  enumerate : mg "enumerate" = none
end K

namespace K
open PySem PySem.Spec PyProof.Rows L2
open Sw (T3 Dist at? relax roundOf rounds)
theorem rep_non (n : Nat) : (List.replicate n [V.non]).flatten = (List.replicate n (none : Option Nat)).map ov := by
  induction n with
  | zero => rfl
  | succ n ih => rw [List.replicate_succ, List.replicate_succ, List.flatten_cons, ih]; rfl
theorem take_succ_of {α : Type} {l : List α} {i : Nat} {x : α} (h : l[i]? = some x) : l.take (i + 1) = l.take i ++ [x] := by
  rw [List.take_add_one, h]; rfl
theorem both_snoc (ts : List T3) (e : T3) : both (ts ++ [e]) = both ts ++ [e, (e.2.1, e.1, e.2.2)] := by
  unfold both
  rw [List.flatMap_append]
  simp
theorem roundOf_append (L M : List T3) (d : Dist) : roundOf (L ++ M) d = roundOf M (roundOf L d) := List.foldl_append
theorem map_ref_at {as : List Addr} {i : Nat} {y : V} (h : (as.map V.ref)[i]? = some y) : ∃ a, as[i]? = some a ∧ y = .ref a := by
  rw [List.getElem?_map] at h
  obtain ⟨a, e, q⟩ := Option.map_eq_some_iff.mp h
  exact ⟨a, e, q.symm⟩
end K
namespace K
open PySem PySem.Spec PyProof.Rows L2
open Sw (T3 Dist at? relax roundOf rounds IsNext Cand IsFar nbr candL)
/-- a row of neighbours (house, price) -/
def NbrAt (H : Hp) (p : Addr) (L : List (Nat × Nat)) : Prop := ∃ as : List Addr, H p = some (.lst (as.map V.ref)) ∧ Paired (fun a q => H a = some (.tup [.int (q.1 : Nat), .int (q.2 : Nat)])) as L
theorem NbrAt.same {H H' : Hp} {p : Addr} {L : List (Nat × Nat)} (h : NbrAt H p L) (s : Same H H') : NbrAt H' p L := by
  obtain ⟨as, h1, h2⟩ := h
  exact ⟨as, s _ _ h1, paired_mono (fun a q e => s _ _ e) h2⟩
theorem nbr_both (ts : List T3) (h u c : Nat) : (u, c) ∈ nbr ts h ↔ (h, u, c) ∈ both ts := by
  rw [Sw.nbr_mem, both_mem]
theorem both_sym (ts : List T3) : ∀ a b c, (a, b, c) ∈ both ts → (b, a, c) ∈ both ts := fun a b c m => by
  rw [both_mem] at m ⊢
  exact m.symm
def spNbr : Sp := fun vs H Q _ => ∃ (t : Addr) (ts : List T3) (h : Nat), vs = [.ref t, .int (h : Nat)] ∧ TiesAt H t ts ∧ ts.length ≤ 400 ∧ ∀ p H', H p = none → Same H H' → NbrAt H' p (nbr ts h) → Q (.ref p) H'
def spNextH : Sp := fun vs H Q _ => ∃ (p t : Addr) (d : Dist) (ts : List T3) (n g h : Nat), vs = [.ref p, .ref t, .int (g : Nat), .int (h : Nat)] ∧ DistAt H p d ∧ TiesAt H t ts ∧ ts.length ≤ 400 ∧ Fits n ts ∧ IsFar (both ts) n g d ∧ h < n ∧
  ∀ x H', IsNext (both ts) d g h x → Same H H' → Q (ov x) H'
/-- the list of next houses -/
def NextsAt (H : Hp) (p : Addr) (E : List T3) (d : Dist) (n g : Nat) : Prop := ∃ xs : List (Option Nat), H p = some (.lst (xs.map ov)) ∧ xs.length = n ∧ ∀ h < n, IsNext E d g h (at? xs h)
def spNexts : Sp := fun vs H Q _ => ∃ (n g : Nat) (t : Addr) (ts : List T3), vs = [.int (n : Nat), .ref t, .int (g : Nat)] ∧ g < n ∧ n ≤ 1000 ∧ TiesAt H t ts ∧ ts.length ≤ 400 ∧ Fits n ts ∧ ∀ p H', H p = none → Same H H' → NextsAt H' p (both ts) (farD n ts g) n g → Q (.ref p) H'
def spLNext : Sp := fun vs H Q _ => ∃ (n g h : Nat) (t : Addr) (ts : List T3), vs = [.int (n : Nat), .ref t, .int (h : Nat), .int (g : Nat)] ∧ g < n ∧ h < n ∧ n ≤ 1000 ∧ TiesAt H t ts ∧ ts.length ≤ 400 ∧ Good n ts ∧
  ∀ x H', IsNext (both ts) (farD n ts g) g h x → Same H H' → Q (ov x) H'
theorem nexts_eqv {H : Hp} {a b : Addr} {E : List T3} {d : Dist} {n g m : Nat} (h1 : NextsAt H a E d n g) (h2 : NextsAt H b E d n g) (hn : n ≤ 1000) : Eqv (m + 2) H (.ref a) (.ref b) := by
  obtain ⟨xs, e1, l1, n1⟩ := h1
  obtain ⟨ys, e2, l2, n2⟩ := h2
  have e : xs = ys := by
    refine List.ext_getElem? fun i => ?_
    by_cases hi : i < n
    · have := Sw.next_one (n1 i hi) (n2 i hi)
      unfold at? at this
      rw [List.getElem?_eq_getElem (by omega), List.getElem?_eq_getElem (by omega)] at this ⊢
      simpa using this
    · rw [List.getElem?_eq_none (by omega), List.getElem?_eq_none (by omega)]
  subst e
  exact eqv_dist e1 e2 (by omega)
theorem NextsAt.same {H H' : Hp} {p : Addr} {E : List T3} {d : Dist} {n g : Nat} (h : NextsAt H p E d n g) (s : Same H H') : NextsAt H' p E d n g := by
  obtain ⟨xs, h1, h2⟩ := h
  exact ⟨xs, s _ _ h1, h2⟩
end K
namespace K
open PySem PySem.Spec PyProof.Rows L2
open Sw (T3 Dist at? relax roundOf rounds IsNext Cand IsFar nbr candL)
theorem tv_inj {e u : T3} (h : tv e = tv u) : e = u := by
  obtain ⟨a, b, c⟩ := e
  obtain ⟨a', b', c'⟩ := u
  unfold tv at h
  injection h with h1 h
  injection h with h2 h
  injection h with h3 _
  injection h1 with h1
  injection h2 with h2
  injection h3 with h3
  have h1 : (a : Int) = a' := h1
  have h2 : (b : Int) = b' := h2
  have h3 : (c : Int) = c' := h3
  have q1 : a = a' := by omega
  have q2 : b = b' := by omega
  have q3 : c = c' := by omega
  rw [q1, q2, q3]
theorem ties_mem {H : Hp} {as : List Addr} {ts : List T3} (h : Paired (fun a e => H a = some (.tup (tv e))) as ts) (e : T3) : e ∈ ts ↔ ∃ a ∈ as, H a = some (.tup (tv e)) := by
  induction h with
  | nil => exact ⟨fun m => (by cases m), fun ⟨a, m, _⟩ => (by cases m)⟩
  | @cons a u as ts r _ ih =>
    constructor
    · intro m
      rcases List.mem_cons.mp m with q | q
      · subst q; exact ⟨a, List.mem_cons_self, r⟩
      · obtain ⟨b, m2, e2⟩ := ih.mp q
        exact ⟨b, List.mem_cons_of_mem _ m2, e2⟩
    · rintro ⟨b, m, e2⟩
      rcases List.mem_cons.mp m with q | q
      · subst q
        rw [r] at e2
        injection e2 with e2
        injection e2 with e2
        rw [tv_inj e2]
        exact List.mem_cons_self
      · exact List.mem_cons_of_mem _ (ih.mpr ⟨b, q, e2⟩)
theorem both_iff {ts us : List T3} (h : ∀ e, (e ∈ us ∨ swp e ∈ us) ↔ (e ∈ ts ∨ swp e ∈ ts)) (e : T3) : e ∈ both us ↔ e ∈ both ts := by
  rw [both_mem, both_mem]
  exact h e
theorem swapped_iff {us ts : List T3} (h : Paired (fun u e => u = e ∨ u = swp e) us ts) (e : T3) : (e ∈ us ∨ swp e ∈ us) ↔ (e ∈ ts ∨ swp e ∈ ts) := by
  induction h with
  | nil => exact ⟨fun m => m, fun m => m⟩
  | @cons u x us ts r _ ih =>
    have key : (e = u ∨ swp e = u) ↔ (e = x ∨ swp e = x) := by
      rcases r with q | q
      · rw [q]
      · subst q
        obtain ⟨a, b, c⟩ := e
        obtain ⟨a', b', c'⟩ := x
        unfold swp
        simp only [Prod.mk.injEq]
        constructor
        · rintro (⟨h1, h2, h3⟩ | ⟨h1, h2, h3⟩)
          · exact .inr ⟨h2, h1, h3⟩
          · exact .inl ⟨h2, h1, h3⟩
        · rintro (⟨h1, h2, h3⟩ | ⟨h1, h2, h3⟩)
          · exact .inr ⟨h2, h1, h3⟩
          · exact .inl ⟨h2, h1, h3⟩
    simp only [List.mem_cons]
    constructor
    · rintro ((q | q) | (q | q))
      · rcases key.mp (.inl q) with z | z
        · exact .inl (.inl z)
        · exact .inr (.inl z)
      · rcases ih.mp (.inl q) with z | z
        · exact .inl (.inr z)
        · exact .inr (.inr z)
      · rcases key.mp (.inr q) with z | z
        · exact .inl (.inl z)
        · exact .inr (.inl z)
      · rcases ih.mp (.inr q) with z | z
        · exact .inl (.inr z)
        · exact .inr (.inr z)
    · rintro ((q | q) | (q | q))
      · rcases key.mpr (.inl q) with z | z
        · exact .inl (.inl z)
        · exact .inr (.inl z)
      · rcases ih.mpr (.inl q) with z | z
        · exact .inl (.inr z)
        · exact .inr (.inr z)
      · rcases key.mpr (.inr q) with z | z
        · exact .inl (.inl z)
        · exact .inr (.inl z)
      · rcases ih.mpr (.inr q) with z | z
        · exact .inl (.inr z)
        · exact .inr (.inr z)
theorem farD_cong {n g : Nat} {ts us : List T3} (h1 : Fits n ts) (h2 : Fits n us) (hg : g < n) (h : ∀ e, e ∈ both us ↔ e ∈ both ts) : farD n us g = farD n ts g :=
  Sw.far_one (Sw.far_cong h (farD_is h2 hg)) (farD_is h1 hg)
theorem NextsAt.cong {H : Hp} {p : Addr} {E E' : List T3} {d : Dist} {n g : Nat} (he : ∀ e, e ∈ E ↔ e ∈ E') (h : NextsAt H p E d n g) : NextsAt H p E' d n g := by
  obtain ⟨xs, h1, h2, h3⟩ := h
  exact ⟨xs, h1, h2, fun i hi => Sw.next_cong he (h3 i hi)⟩
theorem fits_of {n : Nat} {ts us : List T3} (h : Fits n ts) (he : ∀ e, e ∈ both us ↔ e ∈ both ts) : Fits n us := fun e m => both_lt h e ((he e).mp ((both_mem us e).mpr (.inl m)))
end K

namespace PySem
namespace F
theorem args_minD (a d : Value) : argsOk "min" ⟨[a], [(Str.ofString "default", d)]⟩ := by unfold argsOk; kernel_rfl
end F
section
variable {prog : Program} {w : World} {A : Around} {E : Value → Shared → Prop} {s : Shared}
/-- a built-in's call with keywords, where the built-in goes on as another one -/
theorem call_tree_kw {id : String} {b : Builtin} {args : List Value} {kw : List (Str × Value)} {Q : Value → Shared → Prop} (hk : builtinKind id = none) (hp : plainId id = true) (hb : entryFor table id = some b) (ha : argsOk id ⟨args, kw⟩)
    (hc : wpAny (model prog w) A.in1 (b ⟨args, kw⟩) (fun fin s' => match fin with
      | .done f => (match (Except.ok f : Result) with | .ok (.ret v) => Q v s' | .ok _ => False | .error e => E e s')
      | .again c' => c'.quiet = true ∧ codeAny (model prog w) A c' (fun r s' => match r with | .ok (.ret v) => Q v s' | .ok _ => False | .error e => E e s') s') E s) : wpAny (model prog w) A (call (.builtin id) args kw) Q E s := by
  refine wpAny_call (codeAny_call_builtin hp hb ?_)
  simp only [checkBuiltinCall, hk]
  cases hsig : Manifest.signature? id with
  | none => exact wpAny_pure hc
  | some sig =>
    have hz : Bind.checkArgs id sig ⟨args, kw⟩ = pure () := by simpa only [argsOk, hsig] using ha
    show wpAny _ A.in1 (Bind.checkArgs id sig ⟨args, kw⟩) _ _ s
    rw [hz]; exact wpAny_pure hc
end
section
variable {prog : Program} {w : World} {A : Around} {R : Result → Shared → Prop} {I : Addr} {fp wr : List Addr} {n : Nat} {P : Nat → Value → Prop} {St : Nat → Heap → Prop}
theorem minD_name : (toString "min" ++ toString ".loop" : String) = "min.loop" := by decide
theorem minD_loop (d : Value) (W : Walks prog w A.in1 I fp wr n P St) (bt : Nat → Nat → Bool) (hcmp : CmpOf prog w A.in1 .Lt P bt) (S : Addr) (hSf : S ∉ fp) :
    ∀ (k j : Nat) (s : Shared) (vb : Value) (c : Nat), n - (j + 1) = k → j + 1 ≤ n → St (j + 1) s.heap → P (argBest bt j) vb → s.heap.get? S = some { cls := .type "list", dict := none, data := .seq #[vb, vb] c, slots := #[] } →
    (∀ v h' tk, P (argBest bt (n - 1)) v → (∀ b o, b ∉ wr → b ≠ S → s.heap.get? b = some o → h'.get? b = some o) → R (.ok (.ret v)) { s with heap := h', toks := tk }) → codeAny (model prog w) A (.builtin "min.loop" ⟨[.ref I, .none, .ref S], [(Str.ofString "default", d)]⟩) R s := by
  have nS : S ∉ wr := fun h => hSf (W.sub _ h)
  intro k
  induction k with
  | zero =>
    intro j s vb c hk hj st pb e0 hR
    have hin : j + 1 = n := by omega
    refine codeAny_builtin F.entry_min_loop ?_
    rw [Around.under_plainId F.plain_min_loop _]
    show wpAny _ A.in1 (seqItems? (.ref S) >>= _) _ _ s
    refine wpAny_bind (wpAny_seqItems e0 rfl ?_)
    show wpAny _ A.in1 (tryCatch (pyNext (.ref I)) _ >>= _) _ _ s
    refine wpAny_bind (wpAny_tryCatch (W.done s _ _ (hin ▸ st) fun h' tk keep => ?_))
    have e1 := keep S _ nS e0
    show wpAny _ A.in1 (updateSeq S (fun _ => #[]) >>= _) _ _ _
    refine wpAny_bind (wpAny_updateSeq e1 rfl (wpAny_bind (wpAny_letGo (wpAny_pure ?_))))
    exact hR vb _ tk (by rw [← hin]; exact pb) fun b o hbw hbS e => (Heap.get?_update_other _ _ (Ne.symm hbS)).trans (keep b o hbw e)
  | succ k ih =>
    intro j s vb c hk hj st pb e0 hR
    have hlt : j + 1 < n := by omega
    refine codeAny_builtin F.entry_min_loop ?_
    rw [Around.under_plainId F.plain_min_loop _]
    show wpAny _ A.in1 (seqItems? (.ref S) >>= _) _ _ s
    refine wpAny_bind (wpAny_seqItems e0 rfl ?_)
    show wpAny _ A.in1 (tryCatch (pyNext (.ref I)) _ >>= _) _ _ s
    refine wpAny_bind (wpAny_tryCatch (W.item (j + 1) s _ _ hlt st fun v h' tk pv st' keep => ?_))
    have e1 := keep S _ nS e0
    show wpAny _ A.in1 (tryCatch (holding [v, v] (richCompare .Lt v vb >>= _)) _ >>= _) _ _ _
    refine wpAny_bind (wpAny_tryCatch (wpAny_holding (wpAny_bind (hcmp (j + 1) (argBest bt j) v vb _ _ _ pv pb ?_))))
    refine wpAny_bind (wpAny_holding (wpAny_truthy_bool (wpAny_bind (wpAny_letGo (wpAny_pure ?_)))))
    cases hb : bt (j + 1) (argBest bt j) with
    | true =>
      simp only [if_true]
      refine wpAny_bind (wpAny_updateSeq e1 rfl (wpAny_bind (wpAny_letGo ?_)))
      rw [minD_name]
      refine wpAny_pure ⟨plainId_quiet F.plain_min_loop _, ih (j + 1) _ v _ (by omega) hlt (W.frame _ _ _ st' fun b hbf o e => (Heap.get?_update_other _ _ (fun h : S = b => hSf (by rw [h]; exact hbf))).trans e) (by simp only [argBest, hb, if_true]; exact pv) (Heap.get?_update_self _ e1 rfl) fun v' h2 tk2 pv' keep2 => ?_⟩
      exact hR v' h2 tk2 pv' fun b o hbw hbS e => keep2 b o hbw hbS ((Heap.get?_update_other _ _ (Ne.symm hbS)).trans (keep b o hbw e))
    | false =>
      simp only [Bool.false_eq_true, if_false]
      refine wpAny_bind (wpAny_letGo ?_)
      rw [minD_name]
      refine wpAny_pure ⟨plainId_quiet F.plain_min_loop _, ih (j + 1) _ vb c (by omega) hlt st' (by simp only [argBest, hb, Bool.false_eq_true, if_false]; exact pb) e1 fun v' h2 tk2 pv' keep2 => ?_⟩
      exact hR v' h2 tk2 pv' fun b o hbw hbS e => keep2 b o hbw hbS (keep b o hbw e)
theorem minD_first (d : Value) (W : Walks prog w A.in1 I fp wr n P St) (bt : Nat → Nat → Bool) (hcmp : CmpOf prog w A.in1 .Lt P bt) (S : Addr) (hSf : S ∉ fp) {s : Shared} {c : Nat} (st : St 0 s.heap) (e0 : s.heap.get? S = some { cls := .type "list", dict := none, data := .seq #[] c, slots := #[] })
    (h0 : n = 0 → ∀ h' tk, (∀ b o, b ∉ wr → b ≠ S → s.heap.get? b = some o → h'.get? b = some o) → R (.ok (.ret d)) { s with heap := h', toks := tk })
    (hR : 0 < n → ∀ v h' tk, P (argBest bt (n - 1)) v → (∀ b o, b ∉ wr → b ≠ S → s.heap.get? b = some o → h'.get? b = some o) → R (.ok (.ret v)) { s with heap := h', toks := tk }) :
    codeAny (model prog w) A (.builtin "min.loop" ⟨[.ref I, .none, .ref S], [(Str.ofString "default", d)]⟩) R s := by
  have nS : S ∉ wr := fun h => hSf (W.sub _ h)
  refine codeAny_builtin F.entry_min_loop ?_
  rw [Around.under_plainId F.plain_min_loop _]
  show wpAny _ A.in1 (seqItems? (.ref S) >>= _) _ _ s
  refine wpAny_bind (wpAny_seqItems e0 rfl ?_)
  show wpAny _ A.in1 (tryCatch (pyNext (.ref I)) _ >>= _) _ _ s
  by_cases hn : 0 < n
  · refine wpAny_bind (wpAny_tryCatch (W.item 0 s _ _ hn st fun v h' tk pv st' keep => ?_))
    have e1 := keep S _ nS e0
    show wpAny _ A.in1 (updateSeq S (fun _ => #[v, v]) >>= _) _ _ _
    refine wpAny_bind (wpAny_updateSeq e1 rfl ?_)
    rw [minD_name]
    refine wpAny_pure ⟨plainId_quiet F.plain_min_loop _, minD_loop d W bt hcmp S hSf _ 0 _ v _ rfl hn (W.frame _ _ _ st' fun b hbf o e => (Heap.get?_update_other _ _ (fun h : S = b => hSf (by rw [h]; exact hbf))).trans e) pv (Heap.get?_update_self _ e1 rfl) fun v' h2 tk2 pv' keep2 => ?_⟩
    exact hR hn v' h2 tk2 pv' fun b o hbw hbS e => keep2 b o hbw hbS ((Heap.get?_update_other _ _ (Ne.symm hbS)).trans (keep b o hbw e))
  · have hz : n = 0 := by omega
    refine wpAny_bind (wpAny_tryCatch (W.done s _ _ (hz ▸ st) fun h' tk keep => ?_))
    refine wpAny_bind (wpAny_rule (wpAny_pure ?_))
    exact h0 hz h' tk fun b o hbw _ e => keep b o hbw e
end
section
variable {prog : Program} {w : World} {A : Around} {E : Value → Shared → Prop} {s : Shared}
theorem call_minD {x d : Value} {Q : Value → Shared → Prop}
    (h : wpAny (model prog w) A.in1 (pyIter x) (fun it s₂ => ∃ I fp wr n P St bt, it = .ref I ∧ Walks prog w A.in1 I fp wr n P St ∧ St 0 s₂.heap ∧ (∀ b ∈ fp, b < s₂.heap.objs.size) ∧ CmpOf prog w A.in1 .Lt P bt ∧
      (n = 0 → ∀ h' tk, (∀ b o, b ∉ wr → s₂.heap.get? b = some o → h'.get? b = some o) → Q d { s₂ with heap := h', toks := tk }) ∧
      (0 < n → ∀ v h' tk, P (argBest bt (n - 1)) v → (∀ b o, b ∉ wr → s₂.heap.get? b = some o → h'.get? b = some o) → Q v { s₂ with heap := h', toks := tk })) E s) :
    wpAny (model prog w) A (call (.builtin "min") [x] [(Str.ofString "default", d)]) Q E s := by
  refine call_tree_kw F.kind_min F.plain_min F.entry_min (F.args_minD _ _) ?_
  show wpAny _ A.in1 (Builtin.Builtins.bindParams "min" ["key", "default"] 0 ⟨[], [(Str.ofString "default", d)]⟩ >>= _) _ _ s
  refine wpAny_bind (wpAny_of_eq (show Builtin.Builtins.bindParams "min" ["key", "default"] 0 ⟨[], [(Str.ofString "default", d)]⟩ = pure [none, some d] from rfl) ?_)
  refine wpAny_bind (wpAny_pure (wpAny_bind (wpAny_mono h (fun it s₂ h₂ => ?_) fun _ _ e => e)))
  obtain ⟨I, fp, wr, n, P, St, bt, rfl, W, hst, hfp, hcmp, hQ0, hQ⟩ := h₂
  refine wpAny_bind (wpAny_newObj_type ?_)
  have nS : s₂.heap.objs.size ∉ fp := fun hm => Nat.lt_irrefl _ (hfp _ hm)
  rw [minD_name]
  refine wpAny_pure ⟨plainId_quiet F.plain_min_loop _, minD_first d W bt hcmp s₂.heap.objs.size nS (W.frame _ _ _ hst fun b _ o e => Heap.get?_push_of_some _ e) (Heap.get?_push_size _ rfl) (fun hz h' tk keep => ?_) (fun hn v h' tk pv keep => ?_)⟩
  · exact hQ0 hz h' tk fun b o hbw e => keep b o hbw (Nat.ne_of_lt (Heap.lt_size e)) (Heap.get?_push_of_some _ e)
  · exact hQ hn v h' tk pv fun b o hbw e => keep b o hbw (Nat.ne_of_lt (Heap.lt_size e)) (Heap.get?_push_of_some _ e)
end
end PySem
namespace L2
open PySem PySem.Spec PyProof.Rows
section
variable {X : Cx}
/-- min(xs, default=d) of a list of ints -/
def rMinD (K : PySem.W.Frag) : List V → List V → Hp → VK → Prop := fun vs zs H Q => ∃ (a : Addr) (ns : List Int) (d : V), vs = [V.ref a] ∧ zs = [d] ∧ SqL K H a (ns.map V.int) ∧ (ns = [] → Q d H) ∧ ∀ m, m ∈ ns → (∀ y, y ∈ ns → m ≤ y) → Q (.int m) H
theorem cr_minD (hc : X.calm = true) : CallRK X (.builtin "min") ["default"] (rMinD X.K) := by
  intro pins s σ H vs zs us ws Q I r r2 h
  obtain ⟨a, ns, d, rfl, rfl, hs, q0, q⟩ := h
  obtain ⟨its, rv, hl, _⟩ := I.list hs
  rw [Vals.ref1 r]
  cases r2 with
  | @cons _ u _ _ rd rn =>
  cases rn
  have hi := rv.ints
  have hlen := hi.length
  have hat : ∀ (i : Nat) (v : Value), its.toArray[i]? = some v → ∃ t, v = .int (ns.getD i 0) t := fun i v hv => by
    have hv' : its[i]? = some v := by simpa using hv
    have hlt : i < its.length := (List.getElem?_eq_some_iff.mp hv').1
    obtain ⟨w, hw, rw'⟩ := rv.get (i := i) (x := .int (ns.getD i 0)) (by
      rw [List.getElem?_map, List.getD_eq_getElem?_getD, List.getElem?_eq_getElem (by omega : i < ns.length)]
      rfl)
    rw [hv'] at hw
    cases hw
    exact rw'
  show wpAny _ _ (call (.builtin "min") [.ref a] [(Str.ofString "default", u)]) _ _ _
  refine call_minD (iter_any hl.isList fun s₂ e2 st hne => ?_)
  subst e2
  refine ⟨_, _, _, _, _, _, _, rfl, Walks.list (A := X.A.in1) (I.ok.hd hc) _ a hne its.toArray, st, ?_, CmpOf.ints_lt (fun i => ns.getD i 0) hat, fun hz h' tk hk => ?_, fun hn v h' tk hP hk => ?_⟩
  · intro b hb
    have hsz := Heap.size_push s.heap { cls := .type "list_iterator", data := .fields #[.ref a, .int 0 0] }
    show b < (s.heap.push _).objs.size
    rw [hsz]
    rcases List.mem_cons.mp hb with e1 | hb
    · rw [e1]; exact Nat.lt_succ_self _
    · rw [List.mem_singleton.mp hb]
      obtain ⟨_, e, _⟩ := hl.isList
      exact Nat.lt_succ_of_lt (Heap.lt_size e)
  · refine ⟨d, H, I.kept fun b o eo => hk b o (fun hmem => ?_) (Heap.get?_push_of_some _ eo), rd, q0 ?_⟩
    · rw [List.mem_singleton] at hmem
      exact absurd (hmem ▸ Heap.lt_size eo) (Nat.lt_irrefl _)
    · rw [List.size_toArray] at hz
      cases ns with
      | nil => rfl
      | cons => simp at hlen; omega
  · obtain ⟨t, rfl⟩ := hat _ _ hP
    obtain ⟨h1, h2⟩ := argBest_lt (fun i => ns.getD i 0) (its.toArray.size - 1)
    rw [List.size_toArray] at hn h1 h2 ⊢
    refine ⟨.int _, H, I.kept fun b o eo => hk b o (fun hmem => ?_) (Heap.get?_push_of_some _ eo), ⟨t, rfl⟩, q _ ?_ fun y hy => ?_⟩
    · rw [List.mem_singleton] at hmem
      exact absurd (hmem ▸ Heap.lt_size eo) (Nat.lt_irrefl _)
    · have hlt : argBest (fun i j => decide (ns.getD i 0 < ns.getD j 0)) (its.length - 1) < ns.length := by omega
      rw [List.getD_eq_getElem?_getD, List.getElem?_eq_getElem hlt]
      exact List.getElem_mem hlt
    · obtain ⟨j, hj, rfl⟩ := List.getElem_of_mem hy
      have := h2 j (by omega)
      rw [List.getD_eq_getElem?_getD (i := j), List.getElem?_eq_getElem hj] at this
      exact this
end
end L2

namespace PySem
open Sem
/-- the text of a list, whatever is under way -/
theorem list_repr_any {M : Model} {A : Around} {E : Value → Shared → Prop} {s : Shared} {Q : Fin → Shared → Prop} {a : Addr} {o : Obj} {x : Value} {l : List Value} {n b : Nat} (hget : s.heap.get? a = some o) (hd : o.data = .seq (x :: l).toArray n)
    (h1 : ∀ u tk, Q (.done (.ret (.str "[...]" u))) { s with toks := tk }) (h2 : wpAny M A (do again (.builtin "list.__repr__.loop" ⟨[.ref a, rawInt 0, ← newList [], rawInt b], []⟩)) Q E s) : wpAny M A (Builtin.listReprAt b ⟨[.ref a], []⟩) Q E s := by
  intro Γ p hΓ
  have k2 := h2 Γ p hΓ
  unfold Builtin.listReprAt
  simp [slotArgs, Builtin.List.listItems, seqItems?, wp_load_of (h := hget), hd, stack]
  show wp M Γ (if (Γ.below.any _) = true then _ else _) _ _ p s
  split
  · simp [rule, retStr, ret]
    exact h1 _ _
  · exact k2
section
variable {prog : Program} {w : World} {A : Around} {E : Value → Shared → Prop} {s : Shared}
theorem fmt_list_repr {a : Addr} {o : Obj} {l : List Value} {n : Nat} {ts : List Str} {Q : Value → Shared → Prop} (ha : s.heap.get? a = some o) (hc : o.cls = .type "list") (hd : o.data = .seq l.toArray n) (hlen : ts.length = l.toArray.size)
    (hT : ∀ (i : Nat) (y : Value), l.toArray[i]? = some y → ∃ t, ts[i]? = some t ∧ ReprIs prog w y t) (hsz : (listText ts).length ≤ sizeLine)
    (h : ∀ (m : Str) (h' : Heap) (u tk : Tok), m.length ≤ (listText ts).length + 5 → (∀ b o, s.heap.get? b = some o → h'.get? b = some o) → Q (.str m u) { s with heap := h', toks := tk }) : wpAny (model prog w) A (call (.builtin "list.__repr__") [.ref a]) Q E s := by
  have hTy : s.TypeIs (.ref a) "list" := ⟨o, ha, hc⟩
  cases l with
  | nil => exact call_list_repr_empty hTy ha hd (h "[]" s.heap _ _ (Nat.le_trans (by decide +kernel : ("[]" : Str).length ≤ 5) (Nat.le_add_left _ _)) fun _ _ e => e)
  | cons x l =>
    refine wpAny_call (codeAny_call_builtin F.slot_list_repr.plain F.entry_list_repr (F.slot_list_repr.check _ _ _ _ _ _ _ _ hTy (F.args_list_repr_1 _) ?_))
    refine list_repr_any (b := 0) ha hd (fun u tk => ?_) ?_
    · exact h "[...]" s.heap u tk (Nat.le_trans (by decide +kernel : ("[...]" : Str).length ≤ 5) (Nat.le_add_left _ _)) fun _ _ e => e
    · refine wpAny_bind (m := newList []) (wpAny_newObj_type ?_)
      refine wpAny_pure ⟨F.quiet_list_repr_loop _, ?_⟩
      refine codeAny_list_repr_start (P := s.heap.objs.size) (Nat.ne_of_lt (Heap.lt_size ha)) hlen hT (Heap.get?_push_of_some _ ha) hd (Heap.get?_push_size _ rfl) (fun h' u tk hk => ?_) (by omega)
      exact h (listText ts) h' u tk (Nat.le_add_right _ _) fun b o e => hk b o (Nat.ne_of_lt (Heap.lt_size e)) (Heap.get?_push_of_some _ e)
theorem fmt_list {a : Addr} {o : Obj} {l : List Value} {n : Nat} {ts : List Str} {Q : Value → Shared → Prop} (hu : A.units + 2 < cLine) (ha : s.heap.get? a = some o) (hc : o.cls = .type "list") (hd : o.data = .seq l.toArray n) (hlen : ts.length = l.toArray.size)
    (hT : ∀ (i : Nat) (y : Value), l.toArray[i]? = some y → ∃ t, ts[i]? = some t ∧ ReprIs prog w y t) (hsz : (listText ts).length ≤ sizeLine)
    (h : ∀ (m : Str) (h' : Heap) (u tk : Tok), m.length ≤ (listText ts).length + 5 → (∀ b o, s.heap.get? b = some o → h'.get? b = some o) → Q (.str m u) { s with heap := h', toks := tk }) : wpAny (model prog w) A (formatField (.ref a) Str.empty) Q E s :=
  wpAny_formatField_slot (fun _ _ => nofun) hu ⟨o, ha, hc⟩ F.slot_list_format F.slot_list_str F.slot_list_repr.toG
    (fmt_list_repr (s := { s with toks := s.toks + 1 }) ha hc hd hlen hT hsz fun m h' u tk hm hk => ⟨m, u, rfl, h m h' u tk hm hk⟩)
end
end PySem

namespace L2
open PySem PySem.Spec PyProof.Rows
theorem text_le : ∀ (ts : List Str) (k : Nat) (acc : Str), (textFrom k acc ts).length ≤ acc.length + piled ts
  | [], k, acc => Nat.le_add_right _ _
  | t :: ts, k, acc => by
    have ih := text_le ts (k + 1) (acc ++ ((if k > 0 then ", " else "" : String) : Str) ++ t)
    have e : (((if k > 0 then ", " else "" : String)) : Str).length ≤ 2 := by split <;> decide +kernel
    rw [strLen_append, strLen_append] at ih
    rw [piled_cons]
    show (textFrom (k + 1) (acc ++ ((if k > 0 then ", " else "" : String) : Str) ++ t) ts).length ≤ _
    omega
theorem digit_len {i : Int} (h0 : 0 ≤ i) (h1 : i < 10) : (Str.ofString (toString i)).length = 1 := by
  have : i = 0 ∨ i = 1 ∨ i = 2 ∨ i = 3 ∨ i = 4 ∨ i = 5 ∨ i = 6 ∨ i = 7 ∨ i = 8 ∨ i = 9 := by omega
  rcases this with e | e | e | e | e | e | e | e | e | e <;> subst e <;> decide +kernel
section
variable {X : Cx}
/-- {xs}, xs a list of digits: some text -/
def tFmtL (K : PySem.W.Frag) (te : TE) : TE := fun σ H Q => te σ H fun x H1 => ∃ (a : Addr) (ns : List Int), x = .ref a ∧ SqL K H1 a (ns.map V.int) ∧ ns.length ≤ 100 ∧ (∀ n ∈ ns, 0 ≤ n ∧ n < 10) ∧ ∀ m : Str, m.length ≤ 1000 → Q (.str m) H1
theorem pe_fmtLu {e : Expr} {te : TE} {pos : Pos} (hu : X.A.units + 2 < cLine) (he : PE X e te) : PE X (.FormattedValue e (-1) none pos) (tFmtL X.K te) := by
  refine ⟨fun pins s σ H Q I h => ?_⟩
  refine wpAny_FormattedValue_plain (thn (he.run pins s σ H _ I h) fun v s1 hv => ?_)
  obtain ⟨x, H1, I1, r1, a, ns, rfl, hs, hl, hn, q⟩ := hv
  cases r1
  obtain ⟨its, rv, pl, _⟩ := I1.list hs
  obtain ⟨o, ho, hcl, n, hd⟩ := pl.isList
  have hlen := rv.length
  rw [List.length_map] at hlen
  have hpile : ∀ l : List Int, (∀ n ∈ l, 0 ≤ n ∧ n < 10) → piled (l.map fun i => Str.ofString (toString i)) = 3 * l.length := by
    intro l
    induction l with
    | nil => intro _; rfl
    | cons i l ih =>
      intro hl
      have hi := hl i List.mem_cons_self
      rw [List.map_cons, piled_cons, ih (fun n m => hl n (List.mem_cons_of_mem _ m)), digit_len hi.1 hi.2, List.length_cons]
      omega
  have hp := hpile ns hn
  have hz : (listText (ns.map fun i => Str.ofString (toString i))).length ≤ 3 * ns.length + 2 := by
    unfold listText
    have h1 := text_le (ns.map fun i => Str.ofString (toString i)) 0 "["
    have e1 : ((("[" : String) : Str)).length = 1 := rfl
    have e2 : ((("]" : String) : Str)).length = 1 := rfl
    rw [strLen_append, e2]
    rw [e1] at h1
    omega
  refine fmt_list (ts := ns.map fun i => Str.ofString (toString i)) (by omega) ho hcl hd (by rw [List.length_map, List.size_toArray]; exact hlen) (fun i y hy => ?_) (by rw [sizeLine_eq]; omega) fun m h' u tk hm hk => ⟨.str m, H1, I1.kept hk, ⟨u, rfl⟩, q m (by omega)⟩
  have hy' : its[i]? = some y := by simpa using hy
  have hlt : i < ns.length := by have := (List.getElem?_eq_some_iff.mp hy').1; omega
  obtain ⟨z, hz2, rz⟩ := rv.get (i := i) (x := .int ns[i]) (by rw [List.getElem?_map, List.getElem?_eq_getElem hlt]; rfl)
  rw [hy'] at hz2
  cases hz2
  obtain ⟨t, rfl⟩ := rz
  have hb := hn _ (List.getElem_mem hlt)
  refine ⟨_, by rw [List.getElem?_map, List.getElem?_eq_getElem hlt]; rfl, ReprIs.int t ?_⟩
  have : ns[i].natAbs < 10 := by omega
  exact Nat.lt_of_le_of_lt (Nat.log2_le_self _) (by omega)
theorem pe_fmtL {e : Expr} {te : TE} {pos : Pos} {k : Nat} (hr : Room k X.A) (he : PE X e te) : PE X (.FormattedValue e (-1) none pos) (tFmtL X.K te) := pe_fmtLu (by have := hr.units; omega) he
/-- C.m(e, ..), C the class at C (own), m a def of it -/
def tClsF (C : Addr) (sp : Sp) (E : XK) (ta : TE) (t : TA) : TE := fun σ H Q => ta σ H fun x H1 => x = .ref C ∧ t σ H1 fun vs H2 => sp vs H2 Q E
theorem pe_clsf {CX : CXT} {k : Nat} {C f : Addr} {fd : FuncData} {ps : List Str} {mc : Value} {sp : Sp} {E : XK} {o e : Expr} {es : List Expr} {m : Str} {pos apos : Pos} {ta : TE} {t : TA} {pl : Sem Bool} (he : PE X o ta) (r : ClX.CRead X.K C mc) (at_ : PySem.W.findCls X.K (.ref C) mc m = some (.val (.ref f)))
    (F : FnOk X.prog X.w X.K X.mg X.base CX k f fd ps sp) (hr : Room k X.A) (hk : PySem.W.keepIn X.K (.ref f) = true) (hb : Binds X.K fd ps []) (hx : Passes CX X E) (ha : PA X (e :: es) t)
    (hst : starEach (e :: es) X.env = (false, eval e X.env) :: starEach es X.env := by rfl) (hpl : (backTo pos (starEach es X.env)).any (·.1) = false := by rfl)
    (ht : eval (.Call (.Attribute o m apos) (e :: es) [] pos) X.env = (do
      let ov ← eval o X.env
      standAt apos.atName
      let (f, first) ← holding [ov] (getMethod ov m pl)
      callWith pos f first (backTo pos (starEach (e :: es) X.env)) (backToKw pos (keywordEach [] X.env))) := by rfl) :
    PE X (.Call (.Attribute o m apos) (e :: es) [] pos) (tClsF C sp E ta t) := by
  refine ⟨fun pins s σ H Q I h => ?_⟩
  refine PySem.W.methodCall_KW (pl := pl) (thn (he.run pins s σ H _ I h) fun u s1 ⟨x, H1, I1, rx, ex, q⟩ => ?_) ht
  subst ex
  obtain rfl : u = Value.ref C := rx
  refine PySem.W.method_cls I1.kIn r.ga (ClX.getcval_ok (v := .ref f) I1 r ⟨at_, rfl⟩ fun s2 I2 => ?_)
  refine PySem.W.callWith_K (h₀ := X.base) I2.ok.mod.kin hk (thn (ha.run pos pins s2 σ H1 _ I2 q) fun us s3 ⟨vs, H2, I3, rv, q2⟩ => ⟨I3.kIn, ?_⟩) hst hpl
  refine run_fn (dvs := []) F hr hb .nil hx I3 rv ?_
  rw [List.append_nil]
  exact q2
end
end L2

/-! several except clauses, with and without a name -/
namespace L2
open PySem PySem.Spec PyProof.Rows
/-- one clause: the class that it names, the slot of its name (if any), its suite's reading -/
structure Cl where
  c : Value
  i : Option Nat
  ts : Addr → Value → Option Addr → TS
def slotN (i : Option Nat) (v : Option V) (σ : St) : St := match i with
  | none => σ
  | some i => σ.set i v
def endsN (i : Option Nat) (D : Ends) : Ends := match i with
  | none => D
  | some i => { nx := fun σ H => D.nx (σ.set i none) H, rt := D.rt, bk := fun σ H => D.bk (σ.set i none) H, ct := fun σ H => D.ct (σ.set i none) H }
/-- what the clauses wish of an exception of the body -/
def wMix (K : PySem.W.Frag) (Wout : WX) (D : Ends) : List Cl → WX
  | [] => Wout
  | x :: r => fun cls d σ H => ∃ b, PySem.W.exmOne K cls x.c = some b ∧ (b = true → ∀ a, H a = none → x.ts a cls d (endsN x.i D) (slotN x.i (some (.ref a)) σ) H) ∧ (b = false → wMix K Wout D r cls d σ H)
inductive MixOk (X : Cx) : List ExceptHandler → List Cl → Prop
  | nil : MixOk X [] []
  | bare {x : Str} {c : Value} {ts : Addr → Value → Option Addr → TS} {b₀ : Stmt} {suite : List Stmt} {np pos' : Pos} {hds : List ExceptHandler} {l : List Cl} (hc : Names X x c)
      (hsu : ∀ (a : Addr) (oe : Obj) (cls : Value) (d : Option Addr) (pn : List (Addr × Obj)), Zc cls d oe → (∃ vs, oe.data = .fields vs) → PSs (X.suite a ((a, oe) :: pn)) (b₀ :: suite) (ts a cls d)) (r : MixOk X hds l) :
      MixOk X (.ExceptHandler (some (.Name x np)) none (b₀ :: suite) pos' :: hds) (⟨c, none, ts⟩ :: l)
  | as {x n : Str} {i : Nat} {c : Value} {ts : Addr → Value → Option Addr → TS} {b₀ : Stmt} {suite : List Stmt} {np pos' : Pos} {hds : List ExceptHandler} {l : List Cl} (hN : X.N.Nodup) (hi : X.N[i]? = some n) (hln : X.env.kindOf n = some .local) (hc : Names X x c)
      (hsu : ∀ (a : Addr) (oe : Obj) (cls : Value) (d : Option Addr) (pn : List (Addr × Obj)), Zc cls d oe → (∃ vs, oe.data = .fields vs) → PSs (X.suite a ((a, oe) :: pn)) (b₀ :: suite) (ts a cls d)) (r : MixOk X hds l) :
      MixOk X (.ExceptHandler (some (.Name x np)) (some n) (b₀ :: suite) pos' :: hds) (⟨c, some i, ts⟩ :: l)
section
variable {X : Cx} {body : List Stmt} {h₀ : ExceptHandler} {hds : List ExceptHandler} {l : List Cl} {pos : Pos} {tb : WX → TS} {Wout : WX}
theorem ps_try_mix (hs : X.stack = X.env :: X.outer) (hf : X.env.frame = some X.env.locals) (tk : Takes X Wout)
    (hb : ∀ (W : WX) (pn : List (Addr × Obj)) (xe : Value → Shared → Prop), Takes (X.tr pn xe) W → PassesOwn (model X.prog X.w) X.A X.env xe → PSs (X.tr pn xe) body (tb W))
    (hh : MixOk X (h₀ :: hds) l) : PS X (.Try body (h₀ :: hds) [] [] pos) (fun D σ H => tb (wMix X.K Wout D l) D σ H) := by
  refine ⟨fun pins s σ H D I h => ?_⟩
  have ok := I.ok
  have hfr : X.A.frames = some (X.env :: X.outer) := by rw [ok.frames, hs]
  refine wpAny_Try_except (wpAny_mono ((hb (wMix X.K Wout D l) (X.pn ++ pins) (fun e s₁ => wpAny (model X.prog X.w) X.A (noteFrame e X.env) (fun _ s₂ => wpAny (model X.prog X.w) X.A (setFlight e none) (fun _ s₃ => wpAny (model X.prog X.w) X.A (handleBy e X.env (h₀ :: hds)) (SP X pins D) X.xe s₃) X.xe s₂) X.xe s₁) (fun u s' xx => ?_) PassesOwn.looking).run [] s σ H D (I.toTry _) h) (fun f s1 hsp => ?_) (fun e s1 he => he))
  · obtain ⟨a, B, sI, pins', σ', H', cls, d, rfl, J', nb, up, sky, na, os, ag, w⟩ := xx
    have J : Inv X pins σ' H' sI := J'.ofTry ok
    have sky2 : Sky B (X.env :: X.outer) a (Zc cls d) X.env.locals s'.heap := by rw [← hs]; exact sky
    show wpAny (model X.prog X.w) X.A (noteFrame (.ref a) X.env) _ _ _
    refine Sky.land Zc.steady hfr hf sky2 fun h3 fl3 up3 => ?_
    have J3 : Inv X pins σ' H' { s' with heap := h3 } := J.landed nb fl3.1 (up.trans up3) os ag
    obtain ⟨oe3, vs3, he3, hz3, hd3⟩ := fl3.there
    have nfr : a ∉ frs (X.env :: X.outer) := fun hm => by
      obtain ⟨_, o', e', hnf⟩ := fl3.2.2.1.mem hm
      rw [he3] at e'; cases e'
      exact hnf _ hd3
    have nL : a ≠ X.env.locals := fun z => nfr (List.mem_filterMap.mpr ⟨X.env, List.mem_cons_self, by rw [hf, z]⟩)
    have nF : a ∉ X.fs := fun hm => by
      obtain ⟨e, he, q⟩ := List.mem_filterMap.mp hm
      exact nfr (List.mem_filterMap.mpr ⟨e, List.mem_cons_of_mem _ he, q⟩)
    have S3 := J3.suite he3 hd3 na nL nF
    have LT : PySem.W.Looks (model X.prog X.w) h3 (typeOf (.ref a)) cls := fun A Q E s k q => wpAny_typeOf_ref (k _ _ he3) (by rw [hz3.1]; exact q)
    have test : ∀ {x : Str} {c : Value} {np : Pos} {Q : Value → Shared → Prop} {E : Value → Shared → Prop}, Names X x c → Q c { s' with heap := h3 } → wpAny (model X.prog X.w) (X.A.mark (some (.ref a))) (eval (.Name x np) X.env) Q E { s' with heap := h3 } := fun {x c np Q E} hc q => by
      obtain ⟨hg, hdbg, hm | ⟨hm, hv, hnn⟩⟩ := hc
      · exact ld_glob (X := X.suite a ((a, oe3) :: (X.pn ++ pins))) S3 hg hm q hdbg
      · exact ld_blt (X := X.suite a ((a, oe3) :: (X.pn ++ pins))) S3 hg hm hv q hnn hdbg
    have go : ∀ {hds' : List ExceptHandler} {l' : List Cl}, MixOk X hds' l' → wMix X.K Wout D l' cls d σ' H' → wpAny (model X.prog X.w) X.A (handleBy (.ref a) X.env hds') (SP X pins D) X.xe { s' with heap := h3 } := by
      intro hds' l' hk
      induction hk with
      | nil =>
        intro w
        refine wpAny_handleBy_nil ?_
        obtain ⟨k1, k2, k3, oe, vs, T, oT, ts', he, hz, hd, h1, hr⟩ := id fl3
        unfold PySem.passOn
        refine wpAny_bind (wpAny_field he hd h1 ?_)
        rw [if_neg (show ¬ ((Value.ref T == Value.none) = true) from by simp)]
        have fin : wpAny (model X.prog X.w) X.A (setFlight (.ref a) X.env.frame) (fun _ s4 => wpAny (model X.prog X.w) X.A (throw (.ref a) : Sem Flow) (SP X pins D) X.xe s4) X.xe { s' with heap := h3 } := by
          rw [hf]
          refine HandSPX.setFlight_upZ fl3 fun h4 hh4 up4 => wpAny_throw (tk _ _ ?_)
          exact ⟨a, B, sI, pins, σ', H', cls, d, rfl, J, nb, (up.trans up3).trans up4, .inr (.inr (by rw [hs]; exact hh4)), na, os, ag, w⟩
        first
          | exact wpAny_bind (wpAny_pure (wpAny_bind fin))
          | exact wpAny_bind fin
      | @bare x c ts b₀ suite np pos' hds2 l2 hc hsu r ih =>
        intro w
        obtain ⟨b, hb1, hyes, hno⟩ := w
        refine wpAny_handleBy_cons (codeAny_handlers_test ?_) (by intro q; cases q)
        refine test hc ((PySem.W.exm_one (M := model X.prog X.w) (J3.kIn) LT hb1).here ?_)
        cases b with
        | true =>
          refine codeAny_handlers_suite (HandSPX.lands_againZ fl3 fun h4 fl4 up4 => ?_)
          have J4 : Inv X pins σ' H' { s' with heap := h4 } := J.landed nb fl4.1 ((up.trans up3).trans up4) os ag
          obtain ⟨oe4, vs4, he4, hz4, hd4⟩ := fl4.there
          refine wpAny_mono ((hsu a oe4 cls d (X.pn ++ pins) hz4 ⟨_, hd4⟩).run [] _ _ H' _ (J4.suite he4 hd4 na nL nF) (hyes rfl a na)) (fun f s6 hsp => ?_) (fun _ _ z => False.elim z)
          cases f with
          | next => obtain ⟨σ6, H6, S6, q6⟩ := hsp; exact ⟨_, _, S6.unsuite ok, q6⟩
          | brk => obtain ⟨σ6, H6, S6, q6⟩ := hsp; exact ⟨_, _, S6.unsuite ok, q6⟩
          | cont => obtain ⟨σ6, H6, S6, q6⟩ := hsp; exact ⟨_, _, S6.unsuite ok, q6⟩
          | ret u => obtain ⟨v6, σ6, H6, S6, r6, q6⟩ := hsp; exact ⟨_, _, _, S6.unsuite ok, r6, q6⟩
        | false =>
          show wpAny _ X.A (handleBy (.ref a) X.env hds2) _ _ _
          exact ih (hno rfl)
      | @as x n i c ts b₀ suite np pos' hds2 l2 hN hi hln hc hsu r ih =>
        intro w
        obtain ⟨b, hb1, hyes, hno⟩ := w
        have hloc : Loc X.env.scope n := .inl hln
        refine wpAny_handleBy_cons (codeAny_handlers_test ?_) (by intro q; cases q)
        refine test hc ((PySem.W.exm_one (M := model X.prog X.w) (J3.kIn) LT hb1).here ?_)
        cases b with
        | true =>
          refine codeAny_handlers_suite_as (HandSPX.lands_againZ fl3 fun h4 fl4 up4 => ?_)
          have J4 : Inv X pins σ' H' { s' with heap := h4 } := J.landed nb fl4.1 ((up.trans up3).trans up4) os ag
          obtain ⟨oe4, vs4, he4, hz4, hd4⟩ := fl4.there
          have S4 := J4.suite he4 hd4 na nL nF
          refine store_ok (X := X.suite a ((a, oe4) :: (X.pn ++ pins))) (v := .ref a) S4 hN hi hloc rfl (fun s5 S5 => ?_) (.inr hln)
          refine wpAny_mono ((hsu a oe4 cls d (X.pn ++ pins) hz4 ⟨_, hd4⟩).run [] s5 _ H' _ S5 (hyes rfl a na)) (fun f s6 hsp => ?_) (fun _ _ z => False.elim z)
          have end_ : ∀ {σ6 : St} {H6 : Hp} {Q : Shared → Prop}, Inv (X.suite a ((a, oe4) :: (X.pn ++ pins))) [] σ6 H6 s6 → (∀ s7, Inv X pins (σ6.set i none) H6 s7 → Q s7) → wpAny (model X.prog X.w) X.A (do bindName X.env n .none; unbindBehindTheSuite X.env n pos') (fun _ s7 => Q s7) X.xe s6 := fun {σ6 H6 Q} S6 hq => gone_ok (S6.unsuite ok) hN hi hln hq
          cases f with
          | next => obtain ⟨σ6, H6, S6, q6⟩ := hsp; exact end_ S6 fun s7 J7 => ⟨_, _, J7, q6⟩
          | brk => obtain ⟨σ6, H6, S6, q6⟩ := hsp; exact end_ S6 fun s7 J7 => ⟨_, _, J7, q6⟩
          | cont => obtain ⟨σ6, H6, S6, q6⟩ := hsp; exact end_ S6 fun s7 J7 => ⟨_, _, J7, q6⟩
          | ret u => obtain ⟨v6, σ6, H6, S6, r6, q6⟩ := hsp; exact end_ S6 fun s7 J7 => ⟨_, _, _, J7, r6, q6⟩
        | false =>
          show wpAny _ X.A (handleBy (.ref a) X.env hds2) _ _ _
          exact ih (hno rfl)
    exact go hh w
  · cases f with
    | next => obtain ⟨σ', H', J', q⟩ := hsp; exact wpAny_execs_nil ⟨σ', H', J'.ofTry ok, q⟩
    | brk => obtain ⟨σ', H', J', q⟩ := hsp; exact ⟨σ', H', J'.ofTry ok, q⟩
    | cont => obtain ⟨σ', H', J', q⟩ := hsp; exact ⟨σ', H', J'.ofTry ok, q⟩
    | ret u => obtain ⟨v, σ', H', J', r, q⟩ := hsp; exact ⟨v, σ', H', J'.ofTry ok, r, q⟩
end
end L2

namespace K
open PySem PySem.Spec PyProof.Rows L2
/-- whether an error of the class at S is what «except C» names -/
theorem exm_pair {K : PySem.W.Frag} {S C : Addr} {b : Bool} (h1 : PySem.W.subIn K (.ref C) (.type "BaseException") = some true) (h2 : PySem.W.isClsIn K C = true) (h3 : PySem.W.typeIn K (.ref C) = some (.type "type")) (h4 : PySem.W.subIn K (.ref S) (.ref C) = some b) : PySem.W.exmOne K (.ref S) (.ref C) = some b := by
  have e1 : (PySem.W.subIn K (.ref C) (.type "BaseException") == some true) = true := by rw [h1] <;> rfl
  have e2 : ((PySem.W.clsIn K C).isSome && PySem.W.typeIn K (.ref C) == some (.type "type")) = true := by
    have h2' : (PySem.W.clsIn K C).isSome = true := h2
    rw [h2', h3] <;> rfl
  show (if (PySem.W.subIn K (.ref C) (.type "BaseException") == some true) = true then (if ((PySem.W.clsIn K C).isSome && PySem.W.typeIn K (.ref C) == some (.type "type")) = true then PySem.W.subIn K (.ref S) (.ref C) else none) else none) = some b
  rw [if_pos e1, if_pos e2]
  exact h4
/-- what the top has written of SlipError and its __init__ -/
structure SlipT (K : PySem.W.Frag) (mg : Str → Option Value) (CS fS : Addr) : Prop where
  g : mg "SlipError" = some (.ref CS)
  r : ClX.CRead K CS (.type "type")
  at_ : PySem.W.findCls K (.ref CS) (.type "type") "__init__" = some (.val (.ref fS))
  kp : PySem.W.keepIn K (.ref fS) = true
  vV : PySem.W.findCls K (.type "ValueError") (.type "type") "__init__" = some (.val (.builtin "ValueError.__init__"))
  mV : mg "ValueError" = none
/-- .. of a refusal's class x at C, its __init__ at fI -/
structure ExcT (K : PySem.W.Frag) (mg : Str → Option Value) (x : Str) (C fI : Addr) : Prop where
  g : mg x = some (.ref C)
  oex : OexC K C
  xf : XfC K C
  iC : PySem.W.findIn K (.ref C) "__init__" = some (some (.ref fI))
  tI : PySem.W.typeIn K (.ref fI) = some (.type "function")
  word : PySem.W.findIn K (.ref C) "word" = some none
def spSlip (K : PySem.W.Frag) : Sp := fun vs H Q _ => ∃ (a C : Addr) (w y : Str), vs = [.ref a, .str w, .str y] ∧ OexC K C ∧ PySem.W.findIn K (.ref C) "word" = some none ∧ H a = some (exo a C none) ∧
  ∀ dx, H dx = none → dx ≠ a → Q .non (upd (upd H dx (exd dx [("word", .str w)])) a (exo a C (some dx)))
/-- C(v): the exception at a gets its fields, newest first, in a new dict; all else stands -/
def spIn1 (K : PySem.W.Frag) (f wd : Str) (ask : Hp → V → Prop) (got : Hp → Hp → V → V → Prop) : Sp := fun vs H Q _ => ∃ (a C : Addr) (v : V), vs = [.ref a, v] ∧ ask H v ∧ OexC K C ∧ PySem.W.findIn K (.ref C) "word" = some none ∧ PySem.W.findIn K (.ref C) f = some none ∧ H a = some (exo a C none) ∧
  ∀ (dx : Addr) (v' : V) (H' : Hp), H dx = none → dx ≠ a → (∀ b o, H b = some o → b ≠ a → H' b = some o) → H' a = some (exo a C (some dx)) → H' dx = some (exd dx [(f, v'), ("word", .str wd)]) → got H H' v v' → Q .non H'
def askInt : Hp → V → Prop := fun _ v => ∃ i : Int, v = .int i ∧ i.natAbs.log2 < 1920
def gotSame : Hp → Hp → V → V → Prop := fun _ _ v v' => v' = v
/-- a list of digits -/
def askLot (K : PySem.W.Frag) : Hp → V → Prop := fun H v => ∃ (l : Addr) (ns : List Int), v = .ref l ∧ H l = some (.lst (ns.map V.int)) ∧ ns.length ≤ 100 ∧ ∀ n ∈ ns, 0 ≤ n ∧ n < 10
def gotLot : Hp → Hp → V → V → Prop := fun H0 H v v' => ∃ (l l' : Addr) (xs : List V), v = .ref l ∧ v' = .ref l' ∧ H l = some (.lst xs) ∧ H l' = some (.lst xs) ∧ l ≠ l' ∧ H0 l' = none
theorem ext_ne_lst {H : Hp} {a b : Addr} {C : Addr} {d : Option Addr} {xs : List V} (h : H a = some (exo a C d)) (h' : H b = some (.lst xs)) : b ≠ a := fun e => by
  subst e
  rw [h] at h'
  cases h'
section
variable {P : Program} {w : World} {K : PySem.W.Frag} {mg : Str → Option Value} {base : Heap}
theorem join2_le {c m : Str} (hc : (Str.empty ++ c).length ≤ 1000) (hm : m.length ≤ 2000) : ((Str.empty ++ c) ++ m).length ≤ sizeLine := by
  rw [strLen_append, sizeLine_eq]
  omega
theorem join3_le {c m e : Str} (hc : (Str.empty ++ c).length ≤ 1000) (hm : m.length ≤ 2000) (he : e.length ≤ 1000) : (((Str.empty ++ c) ++ m) ++ e).length ≤ sizeLine := by
  rw [strLen_append, strLen_append, sizeLine_eq]
  omega
/-- what a raise of such a refusal leaves -/
theorem raised_same {H H2 : Hp} {a d : Addr} {fs : List (Str × V)} (ha : H a = none) (k : ∀ b o, H b = some o → b ≠ a → H2 b = some o) (hd : H d = none) : Same H (upd (del H2 a) d (.xd fs)) := fun b o e => by
  have hb : b ≠ a := ne_of_none e ha
  rw [upd_ne (ne_of_none e hd), del_ne hb]
  exact k b o e hb
end
end K

namespace K
open PySem PySem.Spec PyProof.Rows L2
open Sw (T3 Dist at? relax roundOf rounds IsNext Cand IsFar nbr candL WayTo lotOf)
/-- a def that may raise, as it can be called -/
structure CalX (P : Program) (w : World) (K : PySem.W.Frag) (mg : Str → Option Value) (base : Heap) (k : Nat) (x : Str) (f : Addr) (fd : FuncData) (ps : List Str) (sp : Sp) : Prop where
  ok : FnOk P w K mg base (L2.CX P w) k f fd ps sp
  g : mg x = some (.ref f)
  kp : PySem.W.keepIn K (.ref f) = true
  b : Binds K fd ps []
/-- a refusal's class with the promise of its __init__ -/
structure ExcC (P : Program) (w : World) (K : PySem.W.Frag) (mg : Str → Option Value) (base : Heap) (k : Nat) (x : Str) (C fI : Addr) (fd : FuncData) (ps : List Str) (sp : Sp) : Prop where
  t : ExcT K mg x C fI
  ok : FnOk P w K mg base CX0 k fI fd ps sp
  b : Binds K fd ps []
/-- NoHouse(h), as it is in the air: its dict, new; all else stands -/
def HouseX (CH : Addr) (h : Int) (H : Hp) (E : XK) : Prop := ∀ (d : Addr) (H' : Hp), H d = none → Same H H' → H' d = some (.xd [("house", .int h), ("word", .str "nohouse")]) → E (.ref CH) (some d) H'
def LotX (CW : Addr) (wd : Str) (lot : List Nat) (H : Hp) (E : XK) : Prop := ∀ (d l : Addr) (H' : Hp), H d = none → H l = none → Same H H' → H' d = some (.xd [("lot", .ref l), ("word", .str wd)]) → H' l = some (.lst (lot.map fun h => V.int (h : Nat))) → E (.ref CW) (some d) H'
def spCheckX (CH : Addr) : Sp := fun vs H Q E => ∃ (n : Nat) (h : Int), vs = [.int (n : Nat), .int h] ∧ h.natAbs.log2 < 1920 ∧ (0 ≤ h ∧ h < n → Q .non H) ∧ (¬ (0 ≤ h ∧ h < n) → HouseX CH h H E)
def spReach : Sp := fun vs H Q _ => ∃ (n g : Nat) (t : Addr) (ts : List T3), vs = [.int (n : Nat), .ref t, .int (g : Nat)] ∧ g < n ∧ n ≤ 1000 ∧ TiesAt H t ts ∧ Fits n ts ∧ ∀ p H', H p = none → Same H H' → H' p = some (.lst ((lotOf n (farD n ts g)).map fun h => V.int (h : Nat))) → Q (.ref p) H'
/-- (price, way) -/
def PriceWay (H : Hp) (p : Addr) (c : Nat) (way : List Nat) : Prop := ∃ w : Addr, H p = some (.tup [.int (c : Nat), .ref w]) ∧ H w = some (.tup (way.map fun h => V.int (h : Nat)))
def spLeastX (CH CW : Addr) : Sp := fun vs H Q E => ∃ (n : Nat) (s g : Int) (t : Addr) (ts : List T3), vs = [.int (n : Nat), .ref t, .int s, .int g] ∧ n ≤ 9 ∧ s.natAbs.log2 < 1920 ∧ g.natAbs.log2 < 1920 ∧ TiesAt H t ts ∧ ts.length ≤ 400 ∧ Fits n ts ∧ (∀ e ∈ ts, 1 ≤ e.2.2 ∧ e.2.2 ≤ 9) ∧
  (¬ (0 ≤ s ∧ s < n) → HouseX CH s H E) ∧ (0 ≤ s ∧ s < n → ¬ (0 ≤ g ∧ g < n) → HouseX CH g H E) ∧
  (∀ s' g' : Nat, s = s' → g = g' → s' < n → g' < n → at? (farD n ts g') s' = none → LotX CW "noway" (lotOf n (farD n ts s')) H E) ∧
  (∀ (s' g' c : Nat) (way : List Nat), s = s' → g = g' → s' < n → g' < n → at? (farD n ts g') s' = some c → WayTo (both ts) (farD n ts g') g' s' way → way.length ≤ 100 → ∀ p H', H p = none → Same H H' → PriceWay H' p c way → Q (.ref p) H')
end K

/-! raising out of a named except suite; defs whose exceptions have no context; defs called while an exception is handled -/
namespace L2H
open PySem PySem.Spec PyProof.Rows L2 HotX
/-- the context of an except suite that may raise, its wish xe -/
abbrev suiteA (X : Cx) (a : Addr) (pn : List (Addr × Obj)) (xe : Value → Shared → Prop) : Cx := { X with A := X.A.mark (some (.ref a)), calm := false, pn := pn, xe := xe }
theorem tracedZ_sameBut {h h' base : Heap} {e L : Addr} {Z : Obj → Prop} {fl : Value} {m : Str → Option Value} (x : HandSPX.TracedZ h base e Z fl) (hn : h.Ns L m) (hs : Heap.SameBut L h h') : HandSPX.TracedZ h' base e Z fl := by
  obtain ⟨oe, vs, T, oT, ts, he, hc, hd, h1, hnT, hTe, hT, hdT, h3⟩ := x
  obtain ⟨oL, es, ep, hoL, hdL, _⟩ := hn
  have neE : e ≠ L := fun q => by
    rw [q, hoL] at he
    have z := Option.some.inj he
    rw [← z, hdL] at hd
    cases hd
  have neT : T ≠ L := fun q => by
    rw [q, hoL] at hT
    have z := Option.some.inj hT
    rw [← z, hdL] at hdT
    cases hdT
  exact ⟨oe, vs, T, oT, ts, (hs.2 e neE).trans he, hc, hd, h1, hnT, hTe, (hs.2 T neT).trans hT, hdT, h3⟩
section
variable {X : Cx} {pins : List (Addr × Obj)} {σ : L2.St} {H : Hp} {s : Shared} {i : Nat} {n : Str}
/-- the name's slot out of hand: any state that differs at the def's own names only -/
theorem inv_gone {h' : Heap} {v : Option Value} {m : Str → Option Value} {t' : Nat} (I : Inv X pins σ H s) (hN : X.N.Nodup) (hi : X.N[i]? = some n) (hn0 : s.heap.Ns X.env.locals m)
    (hn' : h'.Ns X.env.locals (fun x => if x = n then v else m x)) (hs : Heap.SameBut X.env.locals s.heap h') : Inv X pins (σ.set i none) H { s with heap := h', toks := t' } := by
  obtain ⟨mI, hnI, hlk⟩ := id I.loc
  have em : ∀ y, mI y = m y := fun y => by
    obtain ⟨o1, es1, ep1, e1, d1, k1, f1⟩ := hnI
    obtain ⟨o2, es2, ep2, e2, d2, k2, f2⟩ := hn0
    rw [e1] at e2
    cases e2
    rw [d1] at d2
    cases d2
    rw [← f1 y, ← f2 y]
  have neL : ∀ b o, X.s_0.heap.get? b = some o → b ≠ X.env.locals := fun b o e => Nat.ne_of_lt (Nat.lt_of_lt_of_le (Heap.lt_size e) I.ok.above)
  refine ⟨I.ok, I.os, I.bare, ⟨fun b o e n hb hx => ?_, fun b o e n hb hx => ?_, I.base.free, fun b o e hx => ?_, I.base.tups, I.base.frzs, I.base.tbls⟩, ⟨_, hn', fun j y v' e1 e2 e3 => ?_⟩, fun y c e => ?_, I.free, I.freeC, fun p hp => ?_, fun b ob e => ?_, by simpa using I.len⟩
  · exact (hs.2 b (neL b o e)).trans (I.base.keep b o e n hb hx)
  · obtain ⟨sl, e1⟩ := I.base.slot b o e n hb hx
    exact ⟨sl, (hs.2 b (neL b o e)).trans e1⟩
  · obtain ⟨o', e1⟩ := I.base.there b o e hx
    exact ⟨o', (hs.2 b (neL b o e)).trans e1⟩
  · by_cases hj : j = i
    · subst hj
      by_cases hlt : j < σ.length
      · rw [List.getElem?_set_self hlt] at e2; cases e2
      · rw [List.getElem?_eq_none (by simpa using hlt)] at e2; cases e2
    · rw [List.getElem?_set_ne (Ne.symm hj)] at e2
      obtain ⟨u', r', q⟩ := hlk j y v' e1 e2 e3
      refine ⟨u', r', ?_⟩
      rcases q with ⟨k, e⟩ | ⟨k, c, e, z⟩
      · have ny : y ≠ n := fun e => hj (nodup_ix hN e1 (e ▸ hi))
        exact .inl ⟨k, (if_neg ny).trans ((em y).symm.trans e)⟩
      · exact .inr ⟨k, c, e, z.sameBut hs (I.cne y c e)⟩
  · obtain ⟨w', z⟩ := I.cell y c e
    exact ⟨w', z.sameBut hs (I.cne y c e)⟩
  · obtain ⟨e, n, ne, nf, d⟩ := I.pin p hp
    exact ⟨(hs.2 p.1 ne).trans e, n, ne, nf, d⟩
  · refine (I.hok b ob e).stay (fun c w' hc q => (hs.2 c ?_).trans q) (fun _ q => q) fun _ _ q => q
    intro z
    subst z
    rcases hc with hc | hc
    · rw [← hc, I.free] at e; cases e
    · rw [I.free] at hc; cases hc
/-- what flies out of a named suite: it is noted, the name goes, it is passed on and comes back into the def's own activation -/
theorem takes_as {a : Addr} {q : Addr × Obj} {pos : Pos} {Wout : WX} {xe E₁ E₂ : Value → Shared → Prop} (hs : X.stack = X.env :: X.outer) (hf : X.env.frame = some X.env.locals) (hN : X.N.Nodup) (hi : X.N[i]? = some n) (hln : X.env.kindOf n = some .local) (tk : L2.Takes X Wout) (ok : X.Ok)
    {u : Value} {s' : Shared} (x : L2.XE (suiteA X a (q :: (X.pn ++ pins)) xe) (fun c d σ H => Wout c d (σ.set i none) H) u s') :
    wpAny (model X.prog X.w) (X.A.mark (some (.ref a))) (noteFrame u X.env) (fun _ s₃ => wpAny (model X.prog X.w) (X.A.mark (some (.ref a))) (do bindName X.env n .none; unbindBehindTheSuite X.env n pos)
      (fun _ s₄ => wpAny (model X.prog X.w) (X.A.mark (some (.ref a))) (passOn "try.except-as" u X.env : Sem Flow) (fun _ _ => False) (notedBy (model X.prog X.w) (X.A.mark (some (.ref a))) X.env (cameBackBy (model X.prog X.w) X.A X.env X.xe)) s₄) E₂ s₃) E₁ s' := by
  obtain ⟨a2, B, sI, pn2, σ, H, cls, d, rfl, I, nb, up, sky, na, os, ag, w⟩ := x
  have J : Inv X pins σ H sI := Inv.unsuite (X := X) (a := a) (q := q) (pn' := pn2) (show Inv (X.suite a (q :: (X.pn ++ pins))) pn2 σ H sI from I.wish fun _ _ => False) ok
  have hfr : (X.A.mark (some (.ref a))).frames = some (X.env :: X.outer) := by
    show X.A.frames = _
    rw [ok.frames, hs]
  have sky : Sky B (X.env :: X.outer) a2 (Zc cls d) X.env.locals s'.heap := by rw [← hs]; exact sky
  have nb : ∀ b o, sI.heap.get? b = some o → b ∉ frs X.stack → B.get? b = some o := nb
  have hcls : (X.env.scope.kind == .class || (X.env.scope.kind == .module && X.env.locals != X.env.globals)) = false := by rw [ok.kind]; rfl
  obtain ⟨mI, hnI, _⟩ := id J.loc
  have fin : ∀ h1, HandSPX.HeldZ B (X.env :: X.outer) a2 (Zc cls d) X.env.locals h1 → s'.heap.UpToSlots h1 → wpAny (model X.prog X.w) (X.A.mark (some (.ref a))) (do bindName X.env n .none; unbindBehindTheSuite X.env n pos)
      (fun _ s₄ => wpAny (model X.prog X.w) (X.A.mark (some (.ref a))) (passOn "try.except-as" (.ref a2) X.env : Sem Flow) (fun _ _ => False) (notedBy (model X.prog X.w) (X.A.mark (some (.ref a))) X.env (cameBackBy (model X.prog X.w) X.A X.env X.xe)) s₄) E₂ { s' with heap := h1 } := by
    intro h1 hh up1
    have upA := up.trans up1
    have hn : h1.Ns X.env.locals mI := upA.ns hnI
    have hbL : B.get? X.env.locals = none := by
      obtain ⟨_, ⟨L', _, hf', hb', _⟩, _⟩ := hh.2.2.1
      rw [hf] at hf'
      rw [Option.some.inj hf']
      exact hb'
    refine wpAny_nameGoes_keeps hln hn hcls fun h2 v hn2 hs2 => ?_
    have hh2 : HandSPX.HeldZ B (X.env :: X.outer) a2 (Zc cls d) X.env.locals h2 :=
      ⟨fun b o hb => (hs2.2 b fun z => by rw [z, hbL] at hb; cases hb).trans (hh.1 b o hb), hh.2.1, Heap.FunFrames.sameBut hs2 hn2 hh.2.2.1, tracedZ_sameBut hh.2.2.2 hn hs2⟩
    obtain ⟨oe, vs, T, oT, ts, he, hz, hd, h1', r⟩ := id hh2.2.2.2
    unfold PySem.passOn
    refine wpAny_bind (wpAny_field he hd h1' ?_)
    rw [if_neg (show ¬ ((Value.ref T == Value.none) = true) from by simp)]
    rw [hf]
    have go : wpAny (model X.prog X.w) (X.A.mark (some (.ref a))) (setFlight (.ref a2) (some X.env.locals)) (fun _ s4 => wpAny (model X.prog X.w) (X.A.mark (some (.ref a))) (throw (.ref a2) : Sem Flow) (fun _ _ => False) (notedBy (model X.prog X.w) (X.A.mark (some (.ref a))) X.env (cameBackBy (model X.prog X.w) X.A X.env X.xe)) s4) (notedBy (model X.prog X.w) (X.A.mark (some (.ref a))) X.env (cameBackBy (model X.prog X.w) X.A X.env X.xe)) { s' with heap := h2, toks := s'.toks + 1 } := by
      refine HandSPX.setFlight_onZ hh2 fun h3 hh3 up3 => wpAny_throw ?_
      show wpAny _ _ (noteFrame (.ref a2) X.env) _ _ _
      refine HandSPX.againZ hf hh3.2.2.2 ?_
      obtain ⟨oe3, vs3, T3, oT3, ts3, he3, hz3, hd3, h13, r3⟩ := id hh3.2.2.2
      show wpAny _ X.A (do
        if (← field (.ref a2) 1) == .none then unsupported "frame.own-activation:exception-without-traceback"
        setFlight (.ref a2) X.env.frame) _ _ _
      refine wpAny_bind (wpAny_field he3 hd3 h13 ?_)
      rw [if_neg (show ¬ ((Value.ref T3 == Value.none) = true) from by simp)]
      rw [hf]
      refine HandSPX.setFlight_onZ hh3 fun h4 hh4 up4 => tk _ _ ?_
      obtain ⟨oL, es, ep, hoL, hdL, hkL, hfL⟩ := id hn2
      obtain ⟨oI, esI, epI, hoI, hdI, _⟩ := id hnI
      have eL : (sI.heap.update X.env.locals fun _ => oL).get? X.env.locals = some oL := Heap.get?_update_self (fun _ => oL) hoI (Obj.isFreed_of_dict hdL)
      have eO : ∀ b, b ≠ X.env.locals → (sI.heap.update X.env.locals fun _ => oL).get? b = sI.heap.get? b := fun b hb => Heap.get?_update_other _ _ (Ne.symm hb)
      have J2 : Inv X pins (σ.set i none) H { sI with heap := sI.heap.update X.env.locals fun _ => oL, toks := sI.toks } :=
        inv_gone (t' := sI.toks) (m := mI) (v := v) J hN hi hnI ⟨oL, es, ep, eL, hdL, hkL, hfL⟩ (Heap.SameBut.update _ _ _)
      have upB := up3.trans up4
      refine ⟨a2, B, _, pins, _, H, cls, d, rfl, J2, fun b o e hb => ?_, fun b o e hnf => ?_, .inr (.inr (by rw [hs]; exact hh4)), na, os, ag, w⟩
      · have hbL2 : b ≠ X.env.locals := fun z => hb (by rw [z, hs]; exact List.mem_filterMap.mpr ⟨X.env, List.mem_cons_self, hf⟩)
        exact nb b o ((eO b hbL2).symm.trans e) hb
      · by_cases hbL2 : b = X.env.locals
        · subst hbL2
          have e' : some oL = some o := eL.symm.trans e
          cases e'
          exact upB _ _ hoL hnf
        · obtain ⟨sl, e1⟩ := upA b o ((eO b hbL2).symm.trans e) hnf
          obtain ⟨sl2, e2⟩ := upB b _ ((hs2.2 b hbL2).trans e1) hnf
          exact ⟨sl2, e2⟩
    first
      | exact wpAny_bind (wpAny_pure (wpAny_bind go))
      | exact wpAny_bind go
  rcases sky with ⟨hB, hn, hl, oe, vs, he, hz, hd, h1⟩ | fl | hh
  · exact HandSPX.look_newZ Zc.steady hfr hl hf he hB hn hd h1 hz fin
  · exact HandSPX.looks_onZ Zc.steady hfr hf fl fin
  · exact HandSPX.againZ hf hh.2.2.2 (fin s'.heap hh (Heap.UpToSlots.refl _))
end
section
variable {X : Cx} {x n : Str} {c : Value} {i : Nat} {body suite : List Stmt} {b₀ : Stmt} {np pos pos' : Pos} {tb : WX → TS} {ts : Addr → Value → Option Addr → TS} {Wout : WX}
/-- try: body, except x as n: suite that may raise out -/
theorem ps_try_asX (hs : X.stack = X.env :: X.outer) (hf : X.env.frame = some X.env.locals) (hN : X.N.Nodup) (hi : X.N[i]? = some n) (hln : X.env.kindOf n = some .local) (hc : Names X x c) (tk : L2.Takes X Wout)
    (hb : ∀ (W : WX) (pn : List (Addr × Obj)) (xe : Value → Shared → Prop), L2N.Takes (X.tr pn xe) W → PassesOwn (model X.prog X.w) X.A X.env xe → PSs (X.tr pn xe) body (tb W))
    (hsu : ∀ (a : Addr) (oe : Obj) (cls : Value) (d : Option Addr) (pn : List (Addr × Obj)) (xe : Value → Shared → Prop), L2N.Zn cls d oe → (∃ vs, oe.data = .fields vs) → L2.Takes (suiteA X a ((a, oe) :: pn) xe) (fun c d σ H => Wout c d (σ.set i none) H) → HotC (suiteA X a ((a, oe) :: pn) xe) →
      PSs (suiteA X a ((a, oe) :: pn) xe) (b₀ :: suite) (ts a cls d)) :
    PS X (.Try body [.ExceptHandler (some (.Name x np)) (some n) (b₀ :: suite) pos'] [] [] pos) (fun D σ H => tb (wAs X.K c i ts Wout D) D σ H) := by
  refine ⟨fun pins s σ H D I h => ?_⟩
  have ok := I.ok
  have hfr : X.A.frames = some (X.env :: X.outer) := by rw [ok.frames, hs]
  have hloc : Loc X.env.scope n := .inl hln
  refine wpAny_Try_except ?_
  refine wpAny_mono ((hb (wAs X.K c i ts Wout D) (X.pn ++ pins) (fun e s₁ => wpAny (model X.prog X.w) X.A (noteFrame e X.env) (fun _ s₂ => wpAny (model X.prog X.w) X.A (setFlight e none) (fun _ s₃ =>
    wpAny (model X.prog X.w) X.A (handleBy e X.env [.ExceptHandler (some (.Name x np)) (some n) (b₀ :: suite) pos']) (SP X pins D) X.xe s₃) X.xe s₂) X.xe s₁) (fun u s' xx => ?_) PassesOwn.looking).run [] s σ H D (I.toTry _) h) (fun f s1 hsp => ?_) (fun e s1 he => he)
  · obtain ⟨a, B, sI, pins', σ', H', cls, d, rfl, J', nb, up, sky, na, os, ag, b, hb1, hyes, hno⟩ := xx
    have J : Inv X pins σ' H' sI := J'.ofTry ok
    have sky' : Sky B (X.env :: X.outer) a (L2N.Zn cls d) X.env.locals s'.heap := by rw [← hs]; exact sky
    show wpAny (model X.prog X.w) X.A (noteFrame (.ref a) X.env) _ _ _
    refine L2N.Sky.land L2N.Zn.steady hfr hf sky' fun h3 fl3 up3 => ?_
    have J3 : Inv X pins σ' H' { s' with heap := h3 } := J.landed nb fl3.1 (up.trans up3) os ag
    obtain ⟨oe3, vs3, he3, hz3, hd3⟩ := fl3.there
    have nfr : a ∉ frs (X.env :: X.outer) := fun hm => by
      obtain ⟨_, o', e', hnf⟩ := fl3.2.2.1.mem hm
      rw [he3] at e'; cases e'
      exact hnf _ hd3
    have nL : a ≠ X.env.locals := fun z => nfr (List.mem_filterMap.mpr ⟨X.env, List.mem_cons_self, by rw [hf, z]⟩)
    have nF : a ∉ X.fs := fun hm => by
      obtain ⟨e, he, q⟩ := List.mem_filterMap.mp hm
      exact nfr (List.mem_filterMap.mpr ⟨e, List.mem_cons_of_mem _ he, q⟩)
    have S3 := J3.suite he3 hd3 na nL nF
    refine wpAny_handleBy_cons (codeAny_handlers_test ?_) (by intro q; cases q)
    have LT : PySem.W.Looks (model X.prog X.w) h3 (typeOf (.ref a)) cls := fun A Q E s k q => wpAny_typeOf_ref (k _ _ he3) (by rw [hz3.1]; exact q)
    have LM := PySem.W.exm_one (M := model X.prog X.w) (J3.kIn) LT hb1
    have test : ∀ {Q : Value → Shared → Prop} {E : Value → Shared → Prop}, Q c { s' with heap := h3 } → wpAny (model X.prog X.w) (X.A.mark (some (.ref a))) (eval (.Name x np) X.env) Q E { s' with heap := h3 } := fun {Q E} q => by
      obtain ⟨hg, hdbg, hm | ⟨hm, hv, hnn⟩⟩ := hc
      · exact ld_glob (X := X.suite a ((a, oe3) :: (X.pn ++ pins))) S3 hg hm q hdbg
      · exact ld_blt (X := X.suite a ((a, oe3) :: (X.pn ++ pins))) S3 hg hm hv q hnn hdbg
    refine test (LM.here ?_)
    cases b with
    | true =>
      refine codeAny_handlers_suite_as ?_
      refine HandSPX.lands_againZ fl3 fun h4 fl4 up4 => ?_
      have J4 : Inv X pins σ' H' { s' with heap := h4 } := J.landed nb fl4.1 ((up.trans up3).trans up4) os ag
      obtain ⟨oe4, vs4, he4, hz4, hd4⟩ := fl4.there
      have S4 := J4.suite he4 hd4 na nL nF
      refine store_ok (X := X.suite a ((a, oe4) :: (X.pn ++ pins))) (v := .ref a) S4 hN hi hloc rfl (fun s5 S5 => ?_) (.inr hln)
      have hot : ∀ xe, HotC (suiteA X a ((a, oe4) :: (X.pn ++ pins)) xe) := fun xe => ⟨(a, oe4), ⟨rfl, vs4, hd4, hz4.2.2 vs4 hd4⟩, List.mem_cons_self⟩
      have end_ : ∀ {σ6 : L2.St} {H6 : Hp} {s6 : Shared} {Q : Shared → Prop} {xe : Value → Shared → Prop} {E : Value → Shared → Prop}, Inv (suiteA X a ((a, oe4) :: (X.pn ++ pins)) xe) [] σ6 H6 s6 → (∀ s7, Inv X pins (σ6.set i none) H6 s7 → Q s7) → wpAny (model X.prog X.w) X.A (do bindName X.env n .none; unbindBehindTheSuite X.env n pos') (fun _ s7 => Q s7) E s6 := fun {σ6 H6 s6 Q xe E} S6 hq =>
        gone_ok (Inv.unsuite (X := X) (a := a) (q := (a, oe4)) (pn' := []) (show Inv (X.suite a ((a, oe4) :: (X.pn ++ pins))) [] σ6 H6 s6 from S6.wish fun _ _ => False) ok) hN hi hln hq
      refine wpAny_mono ((hsu a oe4 cls d (X.pn ++ pins) _ hz4 ⟨_, hd4⟩ (fun u s' x => takes_as (pins := pins) (pos := pos') hs hf hN hi hln tk ok x) (hot _)).run [] s5 _ H' _ (Inv.unwish (X := suiteA X a ((a, oe4) :: (X.pn ++ pins)) _) (E := fun _ _ => False) S5) (hyes rfl a na)) (fun f s6 hsp => ?_) (fun _ _ z => z)
      cases f with
      | next => obtain ⟨σ6, H6, S6, q6⟩ := hsp; exact end_ S6 fun s7 J7 => ⟨_, _, J7, q6⟩
      | brk => obtain ⟨σ6, H6, S6, q6⟩ := hsp; exact end_ S6 fun s7 J7 => ⟨_, _, J7, q6⟩
      | cont => obtain ⟨σ6, H6, S6, q6⟩ := hsp; exact end_ S6 fun s7 J7 => ⟨_, _, J7, q6⟩
      | ret u => obtain ⟨v6, σ6, H6, S6, r6, q6⟩ := hsp; exact end_ S6 fun s7 J7 => ⟨_, _, _, J7, r6, q6⟩
    | false =>
      show wpAny _ X.A (handleBy (.ref a) X.env []) _ _ _
      refine wpAny_handleBy_nil ?_
      have fl3' := flyingZ_imp (Z' := Zc cls d) (fun o z => z.zc) fl3
      obtain ⟨k1, k2, k3, oe, vs, T, oT, ts', he, hz, hd, h1, hr⟩ := id fl3'
      unfold PySem.passOn
      refine wpAny_bind (wpAny_field he hd h1 ?_)
      rw [if_neg (show ¬ ((Value.ref T == Value.none) = true) from by simp)]
      have fin : wpAny (model X.prog X.w) X.A (setFlight (.ref a) X.env.frame) (fun _ s4 => wpAny (model X.prog X.w) X.A (throw (.ref a) : Sem Flow) (SP X pins D) X.xe s4) X.xe { s' with heap := h3 } := by
        rw [hf]
        refine HandSPX.setFlight_upZ fl3' fun h4 hh4 up4 => wpAny_throw (tk _ _ ?_)
        exact ⟨a, B, sI, pins, σ', H', cls, d, rfl, J, nb, (up.trans up3).trans up4, .inr (.inr (by rw [hs]; exact hh4)), na, os, ag, hno rfl⟩
      first
        | exact wpAny_bind (wpAny_pure (wpAny_bind fin))
        | exact wpAny_bind fin
  · cases f with
    | next => obtain ⟨σ', H', J', q⟩ := hsp; exact wpAny_execs_nil ⟨σ', H', J'.ofTry ok, q⟩
    | brk => obtain ⟨σ', H', J', q⟩ := hsp; exact ⟨σ', H', J'.ofTry ok, q⟩
    | cont => obtain ⟨σ', H', J', q⟩ := hsp; exact ⟨σ', H', J'.ofTry ok, q⟩
    | ret u => obtain ⟨v, σ', H', J', r, q⟩ := hsp; exact ⟨v, σ', H', J'.ofTry ok, r, q⟩
end
end L2H
namespace L2
open PySem PySem.Spec PyProof.Rows L2H HotX
section
variable {P : Program} {w : World} {K : PySem.W.Frag} {mg : Str → Option Value} {base : Heap}
/-- as Fun.okX, for a def whose exceptions have no context -/
theorem Fun.okN {x qual : Str} {st : Stmt} {f : Addr} {fd : FuncData} {N ps : List Str} {k : Nat} {sp : Sp} (F : Fun K x qual st f fd) (S : FnScope N ps (defScope st)) (len : ∀ vs H Q E, sp vs H Q E → vs.length = ps.length)
    (hbody : ∀ (cdv : Value) (A : Around) (outer : List Env) (s : Shared) (H : Hp) (vs : List V) (Q : VK) (E : XK), Room k (A.deeper (envOfC qual (defScope st) s.heap.objs.size f cdv)) → sp vs H Q E →
      ∃ t, PSs (cxOf (L2N.CX P w) P w K mg base N qual (defScope st) f cdv A outer s H E) (defBody st) t ∧ t { nx := fun _ H' => Q .non H', rt := Q } (start N vs) H) : FnOk P w K mg base (L2N.CX P w) (k + 1) f fd ps sp := by
  obtain ⟨oc, od, kV, doc, pm, an, cdv, ct, osl, rfl, lk, hcd⟩ := F.ex
  exact fn_of lk hcd S len fun A outer s H vs Q E hr hsp => hbody cdv A outer s H vs Q E hr hsp
theorem FnOk.toX {k : Nat} {f : Addr} {fd : FuncData} {ps : List Str} {sp : Sp} (F : FnOk P w K mg base (L2N.CX P w) k f fd ps sp) : FnOk P w K mg base (L2.CX P w) k f fd ps sp :=
  ⟨F.len, fun A outer s H args us vs Q E hr e b r h => codeAny_mono (F.run A outer s H args us vs Q E hr e b r h) fun r s' q => by
    cases r with
    | error e =>
      obtain ⟨a, B, H', cls, d, e1, fl, hok, ub, na, os, ag, hE⟩ := q
      exact ⟨a, B, H', cls, d, e1, flyingZ_imp (fun o z => z.zc) fl, hok, ub, na, os, ag, hE⟩
    | ok fl => cases fl <;> exact q⟩
theorem _root_.L2H.RoomH.u2 {k : Nat} {A : Around} (r : RoomH k A) : A.units + 2 < cLine := by have := r.un; omega
/-- a def's promise while an exception is handled -/
theorem Fun.okH {x qual : Str} {st : Stmt} {f : Addr} {fd : FuncData} {N ps : List Str} {k : Nat} {sp : Sp} (F : Fun K x qual st f fd) (S : FnScope N ps (defScope st)) (len : ∀ vs H Q E, sp vs H Q E → vs.length = ps.length)
    (hbody : ∀ (cdv : Value) (A : Around) (outer : List Env) (s : Shared) (H : Hp) (vs : List V) (Q : VK) (E : XK) (p : Addr × Obj), Hot1 A p → RoomH k (A.deeper (envOfC qual (defScope st) s.heap.objs.size f cdv)) → sp vs H Q E →
      ∃ t, PSs (cxH CX0 P w K mg base N qual (defScope st) f cdv A outer s H E p).nox (defBody st) t ∧ t { nx := fun _ H' => Q .non H', rt := Q } (start N vs) H) : FnH P w K mg base CX0 (k + 1) f fd ps sp := by
  obtain ⟨oc, od, kV, doc, pm, an, cdv, ct, osl, rfl, lk, hcd⟩ := F.ex
  refine fn_ofH lk hcd S len fun A outer s H vs Q E p hp hr hsp => ?_
  obtain ⟨t, h, q⟩ := hbody cdv A outer s H vs Q E p hp hr hsp
  exact ⟨t, h.nox, q⟩
theorem FunD.okH {x qual : Str} {params : Arguments} {body : List Stmt} {scope : Scope} {dvs : List V} {f : Addr} {fd : FuncData} {N ps : List Str} {k : Nat} {sp : Sp} (F : FunD K x qual params body scope dvs [] f fd) (S : FnScope N ps scope) (len : ∀ vs H Q E, sp vs H Q E → vs.length = ps.length)
    (hbody : ∀ (cdv : Value) (A : Around) (outer : List Env) (s : Shared) (H : Hp) (vs : List V) (Q : VK) (E : XK) (p : Addr × Obj), Hot1 A p → RoomH k (A.deeper (envOfC qual scope s.heap.objs.size f cdv)) → sp vs H Q E →
      ∃ t, PSs (cxH CX0 P w K mg base N qual scope f cdv A outer s H E p).nox body t ∧ t { nx := fun _ H' => Q .non H', rt := Q } (start N vs) H) : FnH P w K mg base CX0 (k + 1) f fd ps sp := by
  obtain ⟨⟨oc, od, dV, kV, doc, pm, an, cdv, ct, osl, rfl, lk, hcd, _⟩, _⟩ := F
  refine fn_ofH lk hcd S len fun A outer s H vs Q E p hp hr hsp => ?_
  obtain ⟨t, h, q⟩ := hbody cdv A outer s H vs Q E p hp hr hsp
  exact ⟨t, h.nox, q⟩
end
theorem hotC_cxH {CX : CXT} {P : Program} {w : World} {K : PySem.W.Frag} {mg : Str → Option Value} {base : Heap} {N : List Str} {qual : Str} {scope : Scope} {f : Addr} {cd : Value} {A : Around} {outer : List Env} {s : Shared} {H : Hp} {E : XK} {p : Addr × Obj} (h : Hot1 A p) :
    HotC (cxH CX P w K mg base N qual scope f cd A outer s H E p).nox := ⟨p, ⟨h.1, h.2⟩, List.mem_cons_self⟩
section
variable {X : Cx}
/-- C.m(e, ..) while an exception is handled -/
theorem pe_clsfH {CX : CXT} {k : Nat} {C f : Addr} {fd : FuncData} {ps : List Str} {mc : Value} {sp : Sp} {E : XK} {o e : Expr} {es : List Expr} {m : Str} {pos apos : Pos} {ta : TE} {t : TA} {pl : Sem Bool} (he : PE X o ta) (r : ClX.CRead X.K C mc) (at_ : PySem.W.findCls X.K (.ref C) mc m = some (.val (.ref f)))
    (F : FnH X.prog X.w X.K X.mg X.base CX k f fd ps sp) (hr : RoomH k X.A) (hc : HotC X) (hk : PySem.W.keepIn X.K (.ref f) = true) (hb : Binds X.K fd ps []) (hx : ∀ σ, PassesAt CX X σ E) (ha : PA X (e :: es) t)
    (hst : starEach (e :: es) X.env = (false, eval e X.env) :: starEach es X.env := by rfl) (hpl : (backTo pos (starEach es X.env)).any (·.1) = false := by rfl)
    (ht : eval (.Call (.Attribute o m apos) (e :: es) [] pos) X.env = (do
      let ov ← eval o X.env
      standAt apos.atName
      let (f, first) ← holding [ov] (getMethod ov m pl)
      callWith pos f first (backTo pos (starEach (e :: es) X.env)) (backToKw pos (keywordEach [] X.env))) := by rfl) :
    PE X (.Call (.Attribute o m apos) (e :: es) [] pos) (tClsF C sp E ta t) := by
  refine ⟨fun pins s σ H Q I h => ?_⟩
  refine PySem.W.methodCall_KW (pl := pl) (thn (he.run pins s σ H _ I h) fun u s1 ⟨x, H1, I1, rx, ex, q⟩ => ?_) ht
  subst ex
  obtain rfl : u = Value.ref C := rx
  refine PySem.W.method_cls I1.kIn r.ga (ClX.getcval_ok (v := .ref f) I1 r ⟨at_, rfl⟩ fun s2 I2 => ?_)
  refine PySem.W.callWith_K (h₀ := X.base) I2.ok.mod.kin hk (thn (ha.run pos pins s2 σ H1 _ I2 q) fun us s3 ⟨vs, H2, I3, rv, q2⟩ => ⟨I3.kIn, ?_⟩) hst hpl
  exact run_fnH (E := fun _ => E) F hr hc hb (hx σ) I3 rv q2
/-- C(e, ..), an exception with no context -/
theorem pmkN_oex {CX : CXT} {x : Str} {e : Expr} {es : List Expr} {ta : TA} {p pos : Pos} {C fI : Addr} {k : Nat} {fd : FuncData} {ps : List Str} {sp : Sp} {ds : List Value} {dvs : List V} (T : OexC X.K C) (iC : PySem.W.findIn X.K (.ref C) "__init__" = some (some (.ref fI))) (tI : PySem.W.typeIn X.K (.ref fI) = some (.type "function"))
    (F1 : FnOk X.prog X.w X.K X.mg X.base CX k fI fd ps sp) (hr : Room (k + 1) X.A) (hb : Binds X.K fd ps ds) (hd : Vals dvs ds) (hx : Passes CX X (fun _ _ _ => False)) (hg : Gl X x) (hm : X.mg x = some (.ref C)) (ha : PA X (e :: es) ta)
    (hdb : (x == ("__debug__" : Str)) = false := by decide) (he : starEach (e :: es) X.env = (false, eval e X.env) :: starEach es X.env := by rfl) (hpl : (backTo pos (starEach es X.env)).any (·.1) = false := by rfl) :
    L2N.PMk X (.Call (.Name x p) (e :: es) [] pos) (tMkO C sp dvs ta) := by
  intro pins s σ H Q I h
  obtain ⟨nm, q, N, bs, bm, sn, sub, ab, col, dd, k0, k1, k2, k3, k5, hC, hbm⟩ := T.cls
  refine wpAny_Call_Name_kw (ld_glob I hg hm ?_ hdb)
  refine PySem.W.callWith_K (h₀ := X.base) I.ok.mod.kin T.kC (thn (ha.run pos pins s σ H _ I h) fun us s1 ⟨vs, H1, I1, r1, hz, q1⟩ => ⟨I1.kIn, ?_⟩) he hpl
  show wpAny _ _ (call (.ref C) us) _ _ _
  obtain ⟨hp, g, dr, tk, os⟩ := s1
  have hsz : hp.objs.size ≤ hp.objs.size + 1 := Nat.le_succ _
  have hn : H1 (hp.objs.size + 1) = none := I1.hok.fresh hsz
  have hq := q1 (hp.objs.size + 1) hn
  have kk : ∀ b o, hp.get? b = some o → ((hp.push (PySem.W.kdv_tup us)).push (PySem.HandSPX.excO C hp.objs.size)).get? b = some o := fun b o e => Heap.get?_push_of_some _ (Heap.get?_push_of_some _ e)
  have hget : ((hp.push (PySem.W.kdv_tup us)).push (PySem.HandSPX.excO C hp.objs.size)).get? (hp.objs.size + 1) = some (PySem.HandSPX.excO C hp.objs.size) := by heap_get
  have I2 : Inv X pins σ (upd H1 (hp.objs.size + 1) (exo (hp.objs.size + 1) C none)) ⟨(hp.push (PySem.W.kdv_tup us)).push (PySem.HandSPX.excO C hp.objs.size), g, dr, tk, os⟩ :=
    I1.laid (t' := tk) (a := hp.objs.size + 1) (o := exo (hp.objs.size + 1) C none) (h' := (hp.push (PySem.W.kdv_tup us)).push (PySem.HandSPX.excO C hp.objs.size)) kk hsz (exo_ok hget)
  have r2 : Vals (V.ref (hp.objs.size + 1) :: (vs ++ dvs)) (Value.ref (hp.objs.size + 1) :: (us ++ ds)) := .cons rfl (r1.append hd)
  have hl : (Value.ref (hp.objs.size + 1) :: us ++ ds).length = ps.length := by
    have e := r2.length
    rw [F1.len _ _ _ _ hq] at e
    exact e.symm
  have hus : us.length ≤ sizeLine := by
    rw [← Paired.length r1, sizeLine_eq]
    omega
  refine wpAny_call (PySem.HandSPX.call_own F.excBase_ValueError (fun Y => PySem.HandSPX.refsVE_contains Y bm hbm) (I1.kIn _ _ hC) (PySem.W.looks_findIn I1.kIn iC) (fun self => PySem.W.bind_fn I1.kIn self tI) hus
    (codeAny_mono (F1.run _ X.stack _ _ ⟨Value.ref (hp.objs.size + 1) :: us, []⟩ (Value.ref (hp.objs.size + 1) :: (us ++ ds)) _ _ (fun _ _ _ => False) (hr.make C us []) (I2.env0.make C us []) (hb _ (Value.ref (hp.objs.size + 1) :: us) I2.kIn hl) r2 hq) fun r s' hq' => ?_))
  cases r with
  | error er => exact hx pins σ _ _ er s' I2 hq'
  | ok fl =>
    cases fl with
    | ret u =>
      obtain ⟨v, H2, os2, bare2, un2, hok2, rv, ev, d, fs, ea, ed, hd1, q2⟩ := hq'
      subst ev
      obtain ⟨h2, g2, d2, t2, os'⟩ := s'
      obtain ⟨t0, G, J, kG, ge, hoe, na⟩ := mk_end0 (d2 := d2) (t2 := t2) I1 hsz kk un2 hok2 os2 bare2 ea ed hd1
      refine ⟨rv, hp.objs.size + 1, _, _, ⟨G, g2, d2, t2, os'⟩, _, .ref C, some d, rfl, J, kG, ge, hoe, ⟨rfl, rfl, fun vs hv => ?_⟩, rfl, rfl, na, rfl, bare2, raises_own T.exC T.tyC, q2⟩
      cases hv
      rfl
    | next => exact False.elim hq'
    | brk => exact False.elim hq'
    | cont => exact False.elim hq'
theorem pass0H {X : Cx} {E : XK} : ∀ σ, PassesAt CX0 X σ E := fun _ _ _ _ _ _ _ h => h.elim
end
end L2
namespace K
open PySem PySem.Spec PyProof.Rows L2
open Sw (T3 Dist at? relax roundOf rounds IsNext Cand IsFar nbr candL WayTo lotOf)
/-- a def whose exceptions have no context, as it can be called -/
structure CalN (P : Program) (w : World) (K : PySem.W.Frag) (mg : Str → Option Value) (base : Heap) (k : Nat) (x : Str) (f : Addr) (fd : FuncData) (ps : List Str) (sp : Sp) : Prop where
  ok : FnOk P w K mg base (L2N.CX P w) k f fd ps sp
  g : mg x = some (.ref f)
  kp : PySem.W.keepIn K (.ref f) = true
  b : Binds K fd ps []
theorem CalN.x {P : Program} {w : World} {K : PySem.W.Frag} {mg : Str → Option Value} {base : Heap} {k : Nat} {x : Str} {f : Addr} {fd : FuncData} {ps : List Str} {sp : Sp} (h : CalN P w K mg base k x f fd ps sp) : CalX P w K mg base k x f fd ps sp := ⟨h.ok.toX, h.g, h.kp, h.b⟩
/-- a refusal's class with the promise of its __init__ while an exception is handled -/
structure ExcH (P : Program) (w : World) (K : PySem.W.Frag) (mg : Str → Option Value) (base : Heap) (k : Nat) (x : Str) (C fI : Addr) (fd : FuncData) (ps : List Str) (sp : Sp) : Prop where
  t : ExcT K mg x C fI
  ok : L2H.FnH P w K mg base CX0 k fI fd ps sp
  b : Binds K fd ps []
/-- C(i, j) of two ints -/
def spIn2 (K : PySem.W.Frag) (f g wd : Str) : Sp := fun vs H Q _ => ∃ (a C : Addr) (i j : Int), vs = [.ref a, .int i, .int j] ∧ i.natAbs.log2 < 1920 ∧ j.natAbs.log2 < 1920 ∧ OexC K C ∧ PySem.W.findIn K (.ref C) "word" = some none ∧ PySem.W.findIn K (.ref C) f = some none ∧ PySem.W.findIn K (.ref C) g = some none ∧ H a = some (exo a C none) ∧
  ∀ (dx : Addr) (H' : Hp), H dx = none → dx ≠ a → (∀ b o, H b = some o → b ≠ a → H' b = some o) → H' a = some (exo a C (some dx)) → H' dx = some (exd dx [(g, .int j), (f, .int i), ("word", .str wd)]) → Q .non H'
def TieX (CT : Addr) (i j : Int) (H : Hp) (E : XK) : Prop := ∀ (d : Addr) (H' : Hp), H d = none → Same H H' → H' d = some (.xd [("other", .int j), ("one", .int i), ("word", .str "notie")]) → E (.ref CT) (some d) H'
/-- the ties but those that join u and v -/
def lft (ts : List T3) (u v : Nat) : List T3 := ts.filter fun e => !((e.1 == u && e.2.1 == v) || (e.2.1 == u && e.1 == v))
theorem lft_sub {ts : List T3} {u v : Nat} : ∀ e ∈ lft ts u v, e ∈ ts := fun e m => (List.mem_filter.mp m).1
theorem lft_len (ts : List T3) (u v : Nat) : (lft ts u v).length ≤ ts.length := List.length_filter_le _ _
theorem lft_fits {n : Nat} {ts : List T3} {u v : Nat} (h : Fits n ts) : Fits n (lft ts u v) := fun e m => h e (lft_sub e m)
theorem lft_good {n : Nat} {ts : List T3} {u v : Nat} (h : Good n ts) : Good n (lft ts u v) := fun e m => h e (lft_sub e m)
def spWithout : Sp := fun vs H Q _ => ∃ (u v : Nat) (t : Addr) (ts : List T3), vs = [.ref t, .int (u : Nat), .int (v : Nat)] ∧ TiesAt H t ts ∧ ts.length ≤ 400 ∧ ∀ p H', H p = none → Same H H' → TiesAt H' p (lft ts u v) → Q (.ref p) H'
def spRoundX (CH CT CL : Addr) : Sp := fun vs H Q E => ∃ (n : Nat) (s g : Int) (t : Addr) (ts : List T3), vs = [.int (n : Nat), .ref t, .int s, .int g] ∧ n ≤ 9 ∧ s.natAbs.log2 < 1920 ∧ g.natAbs.log2 < 1920 ∧ TiesAt H t ts ∧ ts.length ≤ 400 ∧ Fits n ts ∧ (∀ e ∈ ts, 1 ≤ e.2.2 ∧ e.2.2 ≤ 9) ∧
  (¬ (0 ≤ s ∧ s < n) → HouseX CH s H E) ∧ (0 ≤ s ∧ s < n → ¬ (0 ≤ g ∧ g < n) → HouseX CH g H E) ∧ (0 ≤ s ∧ s < n → g = s → TieX CT s g H E) ∧
  (∀ s' g' : Nat, s = s' → g = g' → s' < n → g' < n → s' ≠ g' → at? (farD n (lft ts s' g') g') s' = none → LotX CL "lone" (lotOf n (farD n (lft ts s' g') s')) H E) ∧
  (∀ (s' g' c : Nat) (way : List Nat), s = s' → g = g' → s' < n → g' < n → s' ≠ g' → at? (farD n (lft ts s' g') g') s' = some c → WayTo (both (lft ts s' g')) (farD n (lft ts s' g') g') g' s' way → way.length ≤ 100 → ∀ p H', H p = none → Same H H' → PriceWay H' p c way → Q (.ref p) H')
end K
namespace L2
open PySem PySem.Spec PyProof.Rows
section
variable {X : Cx}
/-- x not in a tuple of data -/
def rNotInDT (K : PySem.W.Frag) : R2 := fun x y H Q => ∃ d ds, Dp K H x d ∧ Dp K H y (.tuple ds) ∧ SeqAt.shaped d = true ∧ SeqAt.shaped (.tuple ds) = true ∧ Q (.bl (!ds.any fun z => PyData.eqv z d)) H
theorem op_notInDT (hu : X.A.units + 65 < cLine) : OpR X (compareOp .NotIn) (rNotInDT X.K) := by
  intro pins s σ H x y v u Q I rx ry h
  obtain ⟨d, ds, hd, he, sd, se, q⟩ := h
  obtain ⟨as, r1⟩ := Dp.reads I d x v hd rx
  obtain ⟨bs, r2⟩ := Dp.reads I (.tuple ds) y u he ry
  exact SeqAt.notIn_tuple_reads r2 r1 (SeqAt.canLay_of_shaped se) (SeqAt.canLay_of_shaped sd) (room_in_shaped sd hu) ⟨.bl _, H, I, rfl, q⟩
end
end L2
namespace K
open PySem PySem.Spec PyProof.Rows L2
def pairD (i j : Int) : PyData := .tuple [.int i, .int j]
theorem pair_shaped (i j : Int) : SeqAt.shaped (pairD i j) = true := by
  unfold SeqAt.shaped pairD
  simp [PyData.canLay0, PyData.canLayAll0, PyData.depth, PyData.depthAll]
theorem pairs_shaped (i j k l : Int) : SeqAt.shaped (.tuple [pairD i j, pairD k l]) = true := by
  unfold SeqAt.shaped pairD
  simp [PyData.canLay0, PyData.canLayAll0, PyData.depth, PyData.depthAll]
theorem pair_eqv (i j k l : Int) : PyData.eqv (pairD i j) (pairD k l) = decide (i = k ∧ j = l) := by
  simp [pairD, PyData.eqv, PyData.eqvAll, Bool.beq_eq_decide_eq]
theorem dp_pair {K : PySem.W.Frag} {H : Hp} {p : Addr} {i j : Int} (h : H p = some (.tup [.int i, .int j])) : Dp K H (.ref p) (pairD i j) := .tup (SqT.of h) (.cons (.int _) (.cons (.int _) .nil))
end K

/-! refusals held as values -/
namespace L2
open PySem PySem.Spec PyProof.Rows
/-- what a class must have for isinstance of its instances -/
structure IsC (K : PySem.W.Frag) (C : Addr) : Prop where
  cl : (PySem.W.clsIn K C).isSome = true
  ha : PySem.W.findIn K (.ref C) "__class__" = some (some (.builtin "object.__class__"))
  hn : PySem.W.specialIn K (.builtin "object.__class__") "__get__" = some (some (.builtin "getset_descriptor.__get__"))
  ht : PySem.W.takesIn K (.builtin "object.__class__") = some true
  hm : PySem.W.mroIn K C (.type "object") = some true
section
variable {X : Cx}
/-- a refusal that stands: its class, its fields -/
def ExAt (H : Hp) (a C : Addr) (fs : List (Str × V)) : Prop := ∃ dx, H a = some (exo a C (some dx)) ∧ H dx = some (exd dx fs)
theorem ExAt.same {H H' : Hp} {a C : Addr} {fs : List (Str × V)} (h : ExAt H a C fs) (s : ∀ b o, H b = some o → H' b = some o) : ExAt H' a C fs := by
  obtain ⟨dx, h1, h2⟩ := h
  exact ⟨dx, s _ _ h1, s _ _ h2⟩
theorem ExAt.put {H : Hp} {a C l : Addr} {fs : List (Str × V)} {xs ys : List V} (h : ExAt H a C fs) (hl : H l = some (.lst xs)) : ExAt (upd H l (.lst ys)) a C fs := by
  obtain ⟨dx, h1, h2⟩ := h
  refine ⟨dx, ?_, ?_⟩
  · rw [upd_ne (ne_of h1 hl (fun z => by cases z))]; exact h1
  · rw [upd_ne (ne_of h2 hl (fun z => by cases z))]; exact h2
/-- C(e, ..) as a value: R tells what is asked of the arguments -/
theorem pe_valG {CX : CXT} {R : List V → Hp → VK → Prop} {x : Str} {e : Expr} {es : List Expr} {ta : TA} {p pos : Pos} {C fI : Addr} {k : Nat} {fd : FuncData} {ps : List Str} {sp : Sp} (T : OexC X.K C) (iC : PySem.W.findIn X.K (.ref C) "__init__" = some (some (.ref fI))) (tI : PySem.W.typeIn X.K (.ref fI) = some (.type "function"))
    (F1 : FnOk X.prog X.w X.K X.mg X.base CX k fI fd ps sp) (hr : Room (k + 1) X.A) (hb : Binds X.K fd ps []) (hx : Passes CX X (fun _ _ _ => False)) (hg : Gl X x) (hm : X.mg x = some (.ref C)) (ha : PA X (e :: es) ta) (hR : ∀ vs H1 Q, R vs H1 Q → vs.length ≤ 1000 ∧ ∀ a, H1 a = none → sp (.ref a :: vs) (upd H1 a (exo a C none)) (fun v H2 => v = .non ∧ Q (.ref a) H2) (fun _ _ _ => False))
    (hdb : (x == ("__debug__" : Str)) = false := by decide) (he : starEach (e :: es) X.env = (false, eval e X.env) :: starEach es X.env := by rfl) (hpl : (backTo pos (starEach es X.env)).any (·.1) = false := by rfl) :
    PE X (.Call (.Name x p) (e :: es) [] pos) (fun σ H Q => ta σ H fun vs H1 => R vs H1 Q) := by
  refine ⟨fun pins s σ H Q I h => ?_⟩
  obtain ⟨nm, q, N, bs, bm, sn, sub, ab, col, dd, k0, k1, k2, k3, k5, hC, hbm⟩ := T.cls
  refine wpAny_Call_Name_kw (ld_glob I hg hm ?_ hdb)
  refine PySem.W.callWith_K (h₀ := X.base) I.ok.mod.kin T.kC (thn (ha.run pos pins s σ H _ I h) fun us s1 ⟨vs, H1, I1, r1, rr⟩ => ⟨I1.kIn, ?_⟩) he hpl
  obtain ⟨hz, q1⟩ := hR _ _ _ rr
  show wpAny _ _ (call (.ref C) us) _ _ _
  obtain ⟨hp, g, dr, tk, os⟩ := s1
  have hsz : hp.objs.size ≤ hp.objs.size + 1 := Nat.le_succ _
  have hn : H1 (hp.objs.size + 1) = none := I1.hok.fresh hsz
  have hq := q1 (hp.objs.size + 1) hn
  have kk : ∀ b o, hp.get? b = some o → ((hp.push (PySem.W.kdv_tup us)).push (PySem.HandSPX.excO C hp.objs.size)).get? b = some o := fun b o e => Heap.get?_push_of_some _ (Heap.get?_push_of_some _ e)
  have hget : ((hp.push (PySem.W.kdv_tup us)).push (PySem.HandSPX.excO C hp.objs.size)).get? (hp.objs.size + 1) = some (PySem.HandSPX.excO C hp.objs.size) := by heap_get
  have I2 : Inv X pins σ (upd H1 (hp.objs.size + 1) (exo (hp.objs.size + 1) C none)) ⟨(hp.push (PySem.W.kdv_tup us)).push (PySem.HandSPX.excO C hp.objs.size), g, dr, tk, os⟩ :=
    I1.laid (t' := tk) (a := hp.objs.size + 1) (o := exo (hp.objs.size + 1) C none) (h' := (hp.push (PySem.W.kdv_tup us)).push (PySem.HandSPX.excO C hp.objs.size)) kk hsz (exo_ok hget)
  have r2 : Vals (V.ref (hp.objs.size + 1) :: vs) (Value.ref (hp.objs.size + 1) :: us) := .cons rfl r1
  have hl : (Value.ref (hp.objs.size + 1) :: us ++ []).length = ps.length := by
    have e := r2.length
    rw [F1.len _ _ _ _ hq] at e
    rw [List.append_nil]
    exact e.symm
  have hus : us.length ≤ sizeLine := by
    rw [← Paired.length r1, sizeLine_eq]
    omega
  have b2 := hb _ (Value.ref (hp.objs.size + 1) :: us) I2.kIn hl
  rw [List.append_nil] at b2
  refine wpAny_call (PySem.HandSPX.call_own F.excBase_ValueError (fun Y => PySem.HandSPX.refsVE_contains Y bm hbm) (I1.kIn _ _ hC) (PySem.W.looks_findIn I1.kIn iC) (fun self => PySem.W.bind_fn I1.kIn self tI) hus
    (codeAny_mono (F1.run _ X.stack _ _ ⟨Value.ref (hp.objs.size + 1) :: us, []⟩ (Value.ref (hp.objs.size + 1) :: us) _ _ (fun _ _ _ => False) (hr.make C us []) (I2.env0.make C us []) b2 r2 hq) fun r s' hq' => ?_))
  cases r with
  | error er => exact hx pins σ _ _ er s' I2 hq'
  | ok fl =>
    cases fl with
    | ret u =>
      obtain ⟨v, H2, J, rv, ev, q2⟩ := I2.after hq'
      subst ev
      exact ⟨rv, .ref (hp.objs.size + 1), H2, J, rfl, q2⟩
    | next => exact False.elim hq'
    | brk => exact False.elim hq'
    | cont => exact False.elim hq'
/-- e.f of such a value -/
def tXv (K : PySem.W.Frag) (f : Str) (te : TE) : TE := fun σ H Q => te σ H fun x H1 => ∃ (a C : Addr) (fs : List (Str × V)) (v : V), x = .ref a ∧ XfC K C ∧ PySem.W.findIn K (.ref C) f = some none ∧ ExAt H1 a C fs ∧ fs.lookup f = some v ∧ Q v H1
theorem inst_exo {P : Program} {w : World} {H : Hp} {h : Heap} {a C dx : Addr} {fs : List (Str × V)} (hok : HOk P w H h) (ha : H a = some (exo a C (some dx))) (hd : H dx = some (exd dx fs)) :
    ∃ (oe od : Obj) (mA : Str → Option Value), PySem.W.InstAt h a oe C (some od) ∧ (∀ name, PySem.W.lookIn name od = some (mA name)) ∧ ∀ f, RelO (fs.lookup f) (mA f) := by
  obtain ⟨t1, he⟩ := exo_at hok ha
  obtain ⟨mA, hns, hr⟩ := exd_at hok hd
  obtain ⟨od, ho, hl⟩ := lookIn_ns hns
  exact ⟨_, od, mA, ⟨he, rfl, rfl, ho⟩, hl, hr⟩
theorem pe_xv {e : Expr} {te : TE} {pos : Pos} {n : Str} (he : PE X e te) (hb : attributeBase e n X.env (eval e X.env) = eval e X.env := by rfl) : PE X (.Attribute e n pos) (tXv X.K n te) := by
  refine ⟨fun pins s σ H Q I h => ?_⟩
  refine attr_of hb (thn (he.run pins s σ H _ I h) fun u s1 hh => ?_)
  obtain ⟨x, H1, I1, rx, a, C, fs, v, ex, T, hno, ⟨dx, ha, hd⟩, l, q⟩ := hh
  subst ex
  obtain rfl : u = Value.ref a := rx
  obtain ⟨oe, od, mA, J, hl, hr⟩ := inst_exo I1.hok ha hd
  obtain ⟨u, hu, ru⟩ := RelO.some_of (v := v) (o := mA n) (by rw [← l]; exact hr n)
  exact HandSPX.exc_get I1.kIn J T.ga T.gg T.exC (PySem.W.findObj_own T.hdC hno rfl (by rw [hl, hu])) (handed_of ru) ⟨v, H1, I1.tok _, ru, q⟩
theorem pe_xvK {K' : PySem.W.Frag} {e : Expr} {te : TE} {pos : Pos} {n : Str} (hK : X.K = K') (he : PE X e te) (hb : attributeBase e n X.env (eval e X.env) = eval e X.env := by rfl) : PE X (.Attribute e n pos) (tXv K' n te) := hK ▸ pe_xv he hb
/-- isinstance(e, c) of such a value -/
def rIsV (K : PySem.W.Frag) : List V → Hp → VK → Prop := fun xs H Q => ∃ (a C : Addr) (fs : List (Str × V)) (c : V) (cv : Value) (b : Bool), xs = [.ref a, c] ∧ XfC K C ∧ IsC K C ∧ ExAt H a C fs ∧ (∀ u, RelV c u → u = cv) ∧ PySem.W.kitOne K (.ref C) cv = some b ∧ Q (.bl b) H
theorem call_isV : CallR X (.builtin "isinstance") (rIsV X.K) := by
  intro pins s σ H xs us Q I r h
  obtain ⟨a, C, fs, c, cv, b, rfl, T, S, ⟨dx, ha, hd⟩, hcv, e, q⟩ := h
  cases r with
  | cons rx rr =>
    cases rr with
    | cons rt rr =>
      cases rr
      cases rx
      have ec := hcv _ rt
      subst ec
      obtain ⟨oe, od, mA, J, hl, hr⟩ := inst_exo I.hok ha hd
      exact PySem.W.kia_one (PySem.W.kitx_exc S.cl T.ga T.gg T.exC S.ha S.hn S.ht S.hm) I.kIn J e (fun z => nomatch z) fun tk => ⟨.bl b, H, I.kept (t' := tk) fun _ _ z => z, rfl, q⟩
end
end L2
namespace K
open PySem PySem.Spec PyProof.Rows L2
def askStr : Hp → V → Prop := fun _ v => ∃ y : Str, v = .str y ∧ y.length ≤ 1000
def spInS (K : PySem.W.Frag) (f g wd : Str) : Sp := fun vs H Q _ => ∃ (a C : Addr) (i : Int) (y : Str), vs = [.ref a, .int i, .str y] ∧ i.natAbs.log2 < 1920 ∧ y.length ≤ 1000 ∧ OexC K C ∧ PySem.W.findIn K (.ref C) "word" = some none ∧ PySem.W.findIn K (.ref C) f = some none ∧ PySem.W.findIn K (.ref C) g = some none ∧ H a = some (exo a C none) ∧
  ∀ (dx : Addr) (H' : Hp), H dx = none → dx ≠ a → (∀ b o, H b = some o → b ≠ a → H' b = some o) → H' a = some (exo a C (some dx)) → H' dx = some (exd dx [(g, .str y), (f, .int i), ("word", .str wd)]) → Q .non H'
theorem free_upd {H : Hp} {a b : Addr} {o : HO} (h : (upd H a o) b = none) : H b = none := by
  by_cases e : b = a
  · subst e
    rw [upd_same] at h
    cases h
  · rwa [upd_ne e] at h
section
variable {X : Cx} {x : Str} {p pos : Pos} {C fI : Addr} {k : Nat} {fd : FuncData}
/-- C(e), one field -/
def rNew1 (C : Addr) (f wd : Str) (ask : Hp → V → Prop) (got : Hp → Hp → V → V → Prop) : List V → Hp → VK → Prop := fun vs H Q => ∃ v, vs = [v] ∧ ask H v ∧ ∀ (a : Addr) (v' : V) (H' : Hp), H a = none → Same H H' → ExAt H' a C [(f, v'), ("word", .str wd)] → got H H' v v' → Q (.ref a) H'
structure Mono (ask : Hp → V → Prop) (got : Hp → Hp → V → V → Prop) : Prop where
  a : ∀ H H' v, Same H H' → ask H v → ask H' v
  g : ∀ H H0 H' v v', (∀ b, H0 b = none → H b = none) → got H0 H' v v' → got H H' v v'
theorem monoI : Mono askInt gotSame := ⟨fun _ _ _ _ h => h, fun _ _ _ _ _ _ h => h⟩
theorem monoS : Mono askStr gotSame := ⟨fun _ _ _ _ h => h, fun _ _ _ _ _ _ h => h⟩
theorem monoL {K : PySem.W.Frag} : Mono (askLot K) gotLot := ⟨fun _ _ _ s ⟨l, ns, e, h, r⟩ => ⟨l, ns, e, s _ _ h, r⟩, fun _ _ _ _ _ hb ⟨l, l', xs, e1, e2, h1, h2, ne, h3⟩ => ⟨l, l', xs, e1, e2, h1, h2, ne, hb _ h3⟩⟩
theorem pe_new1 {f wd : Str} {e : Expr} {ta : TA} {ask : Hp → V → Prop} {got : Hp → Hp → V → V → Prop} (c : ExcC X.prog X.w X.K X.mg X.base k x C fI fd ["self", f] (spIn1 X.K f wd ask got)) (M : Mono ask got) (fl : PySem.W.findIn X.K (.ref C) f = some none) (hr : Room (k + 1) X.A) (hg : Gl X x) (ha : PA X [e] ta)
    (hdb : (x == ("__debug__" : Str)) = false := by decide) (he : starEach [e] X.env = (false, eval e X.env) :: starEach [] X.env := by rfl) (hpl : (backTo pos (starEach [] X.env)).any (·.1) = false := by rfl) :
    PE X (.Call (.Name x p) [e] [] pos) (fun σ H Q => ta σ H fun vs H1 => rNew1 C f wd ask got vs H1 Q) :=
  pe_valG (R := rNew1 C f wd ask got) c.t.oex c.t.iC c.t.tI c.ok hr c.b pass0 hg c.t.g ha (fun vs H1 Q ⟨v, e1, hask, q⟩ => by
    subst e1
    exact ⟨by simp, fun a na => ⟨a, C, v, rfl, M.a _ _ _ (same_upd na) hask, c.t.oex, c.t.word, fl, upd_same, fun dx v' H' ndx ne hk ha hd hgot => ⟨rfl, q a v' H' na (fun b o e => hk b o (by rw [upd_ne (ne_of_none e na)]; exact e) (ne_of_none e na)) ⟨dx, ha, hd⟩ (M.g _ _ _ _ _ (fun b => free_upd) hgot)⟩⟩⟩) hdb he hpl
/-- C(i, j), C(i, y) -/
def rNew2 (C : Addr) (f g wd : Str) : List V → Hp → VK → Prop := fun vs H Q => ∃ i j : Int, vs = [.int i, .int j] ∧ i.natAbs.log2 < 1920 ∧ j.natAbs.log2 < 1920 ∧ ∀ (a : Addr) (H' : Hp), H a = none → Same H H' → ExAt H' a C [(g, .int j), (f, .int i), ("word", .str wd)] → Q (.ref a) H'
def rNewS (C : Addr) (f g wd : Str) : List V → Hp → VK → Prop := fun vs H Q => ∃ (i : Int) (y : Str), vs = [.int i, .str y] ∧ i.natAbs.log2 < 1920 ∧ y.length ≤ 1000 ∧ ∀ (a : Addr) (H' : Hp), H a = none → Same H H' → ExAt H' a C [(g, .str y), (f, .int i), ("word", .str wd)] → Q (.ref a) H'
theorem pe_new2 {f g wd : Str} {e e2 : Expr} {ta : TA} (c : ExcC X.prog X.w X.K X.mg X.base k x C fI fd ["self", f, g] (spIn2 X.K f g wd)) (fl : PySem.W.findIn X.K (.ref C) f = some none) (gl : PySem.W.findIn X.K (.ref C) g = some none) (hr : Room (k + 1) X.A) (hg : Gl X x) (ha : PA X [e, e2] ta)
    (hdb : (x == ("__debug__" : Str)) = false := by decide) (he : starEach [e, e2] X.env = (false, eval e X.env) :: starEach [e2] X.env := by rfl) (hpl : (backTo pos (starEach [e2] X.env)).any (·.1) = false := by rfl) :
    PE X (.Call (.Name x p) [e, e2] [] pos) (fun σ H Q => ta σ H fun vs H1 => rNew2 C f g wd vs H1 Q) :=
  pe_valG (R := rNew2 C f g wd) c.t.oex c.t.iC c.t.tI c.ok hr c.b pass0 hg c.t.g ha (fun vs H1 Q ⟨i, j, e1, hi, hj, q⟩ => by
    subst e1
    exact ⟨by simp, fun a na => ⟨a, C, i, j, rfl, hi, hj, c.t.oex, c.t.word, fl, gl, upd_same, fun dx H' ndx ne hk ha hd => ⟨rfl, q a H' na (fun b o e => hk b o (by rw [upd_ne (ne_of_none e na)]; exact e) (ne_of_none e na)) ⟨dx, ha, hd⟩⟩⟩⟩) hdb he hpl
theorem pe_newS {f g wd : Str} {e e2 : Expr} {ta : TA} (c : ExcC X.prog X.w X.K X.mg X.base k x C fI fd ["self", f, g] (spInS X.K f g wd)) (fl : PySem.W.findIn X.K (.ref C) f = some none) (gl : PySem.W.findIn X.K (.ref C) g = some none) (hr : Room (k + 1) X.A) (hg : Gl X x) (ha : PA X [e, e2] ta)
    (hdb : (x == ("__debug__" : Str)) = false := by decide) (he : starEach [e, e2] X.env = (false, eval e X.env) :: starEach [e2] X.env := by rfl) (hpl : (backTo pos (starEach [e2] X.env)).any (·.1) = false := by rfl) :
    PE X (.Call (.Name x p) [e, e2] [] pos) (fun σ H Q => ta σ H fun vs H1 => rNewS C f g wd vs H1 Q) :=
  pe_valG (R := rNewS C f g wd) c.t.oex c.t.iC c.t.tI c.ok hr c.b pass0 hg c.t.g ha (fun vs H1 Q ⟨i, y, e1, hi, hj, q⟩ => by
    subst e1
    exact ⟨by simp, fun a na => ⟨a, C, i, y, rfl, hi, hj, c.t.oex, c.t.word, fl, gl, upd_same, fun dx H' ndx ne hk ha hd => ⟨rfl, q a H' na (fun b o e => hk b o (by rw [upd_ne (ne_of_none e na)]; exact e) (ne_of_none e na)) ⟨dx, ha, hd⟩⟩⟩⟩) hdb he hpl
end
/-- what all refusals have as values -/
structure ExcG (K : PySem.W.Frag) (CS C : Addr) : Prop where
  xf : XfC K C
  word : PySem.W.findIn K (.ref C) "word" = some none
  is : IsC K C
  k1 : PySem.W.kitOne K (.ref C) (.ref CS) = some true
  k2 : PySem.W.kitOne K (.ref C) (.type "ValueError") = some true
end K

/-! raise C(), a chain of three, methods that raise, sorted(dict) -/
namespace L2
open PySem PySem.Spec PyProof.Rows
section
variable {X : Cx}
theorem pmk_oex0 {CX : CXT} {x : Str} {p pos : Pos} {C fI : Addr} {k : Nat} {fd : FuncData} {ps : List Str} {sp : Sp} (T : OexC X.K C) (iC : PySem.W.findIn X.K (.ref C) "__init__" = some (some (.ref fI))) (tI : PySem.W.typeIn X.K (.ref fI) = some (.type "function"))
    (F1 : FnOk X.prog X.w X.K X.mg X.base CX k fI fd ps sp) (hr : Room (k + 1) X.A) (hb : Binds X.K fd ps []) (hx : Passes CX X (fun _ _ _ => False)) (hg : Gl X x) (hm : X.mg x = some (.ref C))
    (hdb : (x == ("__debug__" : Str)) = false := by decide) :
    PMk X (.Call (.Name x p) [] [] pos) (tMkO C sp [] tNil) := by
  intro pins s σ H1 Q I1 h
  obtain ⟨nm, q, N, bs, bm, sn, sub, ab, col, dd, k0, k1, k2, k3, k5, hC, hbm⟩ := T.cls
  refine wpAny_Call_Name_kw (ld_glob I1 hg hm ?_ hdb)
  refine PySem.W.callWith_K0 I1.kIn T.kC ?_
  obtain ⟨hz, q1⟩ := h
  show wpAny _ _ (call (.ref C) []) _ _ _
  obtain ⟨hp, g, dr, tk, os⟩ := s
  have hsz : hp.objs.size ≤ hp.objs.size + 1 := Nat.le_succ _
  have hn : H1 (hp.objs.size + 1) = none := I1.hok.fresh hsz
  have hq := q1 (hp.objs.size + 1) hn
  have kk : ∀ b o, hp.get? b = some o → ((hp.push (PySem.W.kdv_tup [])).push (PySem.HandSPX.excO C hp.objs.size)).get? b = some o := fun b o e => Heap.get?_push_of_some _ (Heap.get?_push_of_some _ e)
  have hget : ((hp.push (PySem.W.kdv_tup [])).push (PySem.HandSPX.excO C hp.objs.size)).get? (hp.objs.size + 1) = some (PySem.HandSPX.excO C hp.objs.size) := by heap_get
  have I2 : Inv X pins σ (upd H1 (hp.objs.size + 1) (exo (hp.objs.size + 1) C none)) ⟨(hp.push (PySem.W.kdv_tup [])).push (PySem.HandSPX.excO C hp.objs.size), g, dr, tk, os⟩ :=
    I1.laid (t' := tk) (a := hp.objs.size + 1) (o := exo (hp.objs.size + 1) C none) (h' := (hp.push (PySem.W.kdv_tup [])).push (PySem.HandSPX.excO C hp.objs.size)) kk hsz (exo_ok hget)
  have r2 : Vals [V.ref (hp.objs.size + 1)] [Value.ref (hp.objs.size + 1)] := .cons rfl .nil
  have hl : [Value.ref (hp.objs.size + 1)].length = ps.length := by
    have e := F1.len _ _ _ _ hq
    exact e
  have b2 := hb _ [Value.ref (hp.objs.size + 1)] I2.kIn (by rw [List.append_nil]; exact hl)
  rw [List.append_nil] at b2
  refine wpAny_call (PySem.HandSPX.call_own F.excBase_ValueError (fun Y => PySem.HandSPX.refsVE_contains Y bm hbm) (I1.kIn _ _ hC) (PySem.W.looks_findIn I1.kIn iC) (fun self => PySem.W.bind_fn I1.kIn self tI) (rest := []) (Nat.zero_le _)
    (codeAny_mono (F1.run _ X.stack _ _ ⟨[Value.ref (hp.objs.size + 1)], []⟩ [Value.ref (hp.objs.size + 1)] _ _ (fun _ _ _ => False) (hr.make C [] []) (I2.env0.make C [] []) b2 r2 hq) fun r s' hq' => ?_))
  cases r with
  | error er => exact hx pins σ _ _ er s' I2 hq'
  | ok fl =>
    cases fl with
    | ret u =>
      obtain ⟨v, H2, os2, bare2, un2, hok2, rv, ev, d, fs, ea, ed, hd1, q2⟩ := hq'
      subst ev
      obtain ⟨h2, g2, d2, t2, os'⟩ := s'
      exact ⟨rv, mk_end (raises_own T.exC T.tyC) I1 hsz kk un2 hok2 os2 bare2 ea ed hd1 q2⟩
    | next => exact False.elim hq'
    | brk => exact False.elim hq'
    | cont => exact False.elim hq'
theorem PS.nox {st : Stmt} {t : TS} (h : PS X.nox st t) : PS X st t := ⟨fun pins s σ H D I hw =>
  wpAny_mono (h.run pins s σ H D (I.wish _) hw) (fun _ _ q => q.unwish) fun _ _ z => False.elim z⟩
/-- a op b op' c op'' d -/
def tChain3 (r r' r'' : R2) (ta tb tc td : TE) : TE := fun σ H Q => ta σ H fun x H1 => tb σ H1 fun y H2 => r x y H2 fun z H3 => ∃ k, z = .bl k ∧
  (if k = true then tc σ H3 fun w' H4 => r' y w' H4 fun z2 H5 => ∃ k2, z2 = .bl k2 ∧ (if k2 = true then td σ H5 fun w2 H6 => r'' w' w2 H6 Q else Q (.bl false) H5) else Q (.bl false) H3)
theorem pe_chain3 {a b c d : Expr} {pos : Pos} {ta tb tc td : TE} {op op' op'' : CmpOp} {r r' r'' : R2} (ho : OpR X (compareOp op) r) (ho' : OpR X (compareOp op') r') (ho'' : OpR X (compareOp op'') r'') (ha : PE X a ta) (hb : PE X b tb) (hc : PE X c tc) (hd : PE X d td)
    (hm : lastMarks [op, op', op''] [b, c, d] = false := by with_unfolding_all rfl) : PE X (.Compare a [op, op', op''] [b, c, d] pos) (tChain3 r r' r'' ta tb tc td) := by
  refine ⟨fun pins s σ H Q I h => ?_⟩
  refine Compare_chain (thn (ha.run pins s σ H _ I h) fun v s1 ⟨x, H1, I1, r1, q1⟩ => chain_link (thn (hb.run pins s1 σ H1 _ I1 q1) fun u s2 ⟨y, H2, I2, r2, q2⟩ =>
    thn (ho pins s2 σ H2 x y v u _ I2 r1 r2 q2) fun dd s3 ⟨z, H3, I3, r3, k, e, q3⟩ => ?_)) hm
  subst e
  cases r3
  refine wpAny_truthy_bool ?_
  cases k with
  | false => exact ite_ff ⟨.bl false, H3, I3, rfl, q3⟩
  | true =>
    refine ite_tt (chain_link (thn (hc.run pins s3 σ H3 _ I3 q3) fun w' s4 ⟨z', H4, I4, r4, q4⟩ => thn (ho' pins s4 σ H4 y z' u w' _ I4 r2 r4 q4) fun d' s5 ⟨z2, H5, I5, r5, k2, e2, q5⟩ => ?_))
    subst e2
    cases r5
    refine wpAny_truthy_bool ?_
    cases k2 with
    | false => exact ite_ff ⟨.bl false, H5, I5, rfl, q5⟩
    | true => exact ite_tt (chain_last (thn (hd.run pins s5 σ H5 _ I5 q5) fun w2 s6 ⟨z3, H6, I6, r6, q6⟩ => ho'' pins s6 σ H6 z' z3 w' w2 Q I6 r4 r6 q6))
/-- o.m(e, ..), o.m() that may raise, in a try -/
def tMethX (C : Addr) (m : Str) (sp : Sp) (E : St → XK) (ta : TE) (t : TA) : TE := fun σ H Q => ta σ H fun x H1 => ∃ a dx fs, x = .ref a ∧ H1 a = some (.ins C dx fs) ∧ fs.lookup m = none ∧ t σ H1 fun vs H2 => sp (x :: vs) H2 Q (E σ)
variable {CX : CXT} {k : Nat} {f C : Addr} {fd : FuncData} {ps : List Str} {sp : Sp} {E : St → XK} {m : Str} {pos apos : Pos} {e o : Expr} {es : List Expr} {ta : TE} {t : TA}
theorem pe_methX {pl : Sem Bool} (he : PE X o ta) (c : Cls X.K C) (hm : Meth X.K C m f) (F : FnOk X.prog X.w X.K X.mg X.base CX k f fd ps sp) (hr : Room k X.A) (hb : Binds X.K fd ps []) (hx : ∀ σ, PassesAt CX X σ (E σ)) (ha : PA X (e :: es) t)
    (hst : starEach (e :: es) X.env = (false, eval e X.env) :: starEach es X.env := by rfl) (hpl : (backTo pos (starEach es X.env)).any (·.1) = false := by rfl)
    (ht : eval (.Call (.Attribute o m apos) (e :: es) [] pos) X.env = (do
      let ov ← eval o X.env
      standAt apos.atName
      let (f, first) ← holding [ov] (getMethod ov m pl)
      callWith pos f first (backTo pos (starEach (e :: es) X.env)) (backToKw pos (keywordEach [] X.env))) := by rfl) :
    PE X (.Call (.Attribute o m apos) (e :: es) [] pos) (tMethX C m sp E ta t) := by
  refine ⟨fun pins s σ H Q I h => ?_⟩
  refine PySem.W.methodCall_KW (pl := pl) (thn (he.run pins s σ H _ I h) fun u s1 ⟨x, H1, I1, rx, a, dx, fs, ex, ea, l, q⟩ => ?_) ht
  subst ex
  obtain rfl : u = Value.ref a := rx
  refine getmeth_ok I1 ea c hm l ?_
  refine PySem.W.callWith_K (first := [.ref a]) (h₀ := X.base) I.ok.mod.kin hm.kp (thn (ha.run pos pins s1 σ H1 _ I1 q) fun us s2 ⟨vs, H2, I2, r, q2⟩ => ⟨I2.kIn, ?_⟩) hst hpl
  exact run_fnS (us := .ref a :: us) (vs := .ref a :: vs) F hr hb (hx σ) I2 (.cons rfl r) q2
theorem pe_methX0 {pl : Sem Bool} (he : PE X o ta) (c : Cls X.K C) (hm : Meth X.K C m f) (F : FnOk X.prog X.w X.K X.mg X.base CX k f fd ps sp) (hr : Room k X.A) (hb : Binds X.K fd ps []) (hx : ∀ σ, PassesAt CX X σ (E σ))
    (ht : eval (.Call (.Attribute o m apos) [] [] pos) X.env = (do
      let ov ← eval o X.env
      standAt apos.atName
      let (f, first) ← holding [ov] (getMethod ov m pl)
      callWith pos f first (backTo pos (starEach [] X.env)) (backToKw pos (keywordEach [] X.env))) := by rfl) :
    PE X (.Call (.Attribute o m apos) [] [] pos) (tMethX C m sp E ta tNil) := by
  refine ⟨fun pins s σ H Q I h => ?_⟩
  refine PySem.W.methodCall_KW (pl := pl) (thn (he.run pins s σ H _ I h) fun u s1 ⟨x, H1, I1, rx, a, dx, fs, ex, ea, l, q⟩ => ?_) ht
  subst ex
  obtain rfl : u = Value.ref a := rx
  refine getmeth_ok I1 ea c hm l ?_
  exact PySem.W.callWith_K0 (first := [.ref a]) I1.kIn hm.kp (run_fnS (us := [.ref a]) (vs := [.ref a]) F hr hb (hx σ) I1 (.cons rfl .nil) q)
/-- sorted(d), d a dict with int keys, of any length -/
def rSortedDI : List V → Hp → VK → Prop := fun xs H Q => ∃ (a : Addr) (kvs : List (Key × V)) (ks : List Int), xs = [.ref a] ∧ Rd H a (.dK kvs) ∧ kvs.map (·.1) = ks.map Sum.inl ∧ ks.length ≤ sizeLine ∧
    ∀ (ys : List Int) (p : Addr), ys.Perm ks → ys.Pairwise (· ≤ ·) → H p = none → Q (.ref p) (upd H p (.lst (ys.map V.int)))
theorem call_sortedDA (hcalm : X.calm = true) : CallR X (.builtin "sorted") rSortedDI := by
  intro pins s σ H xs us Q I r q
  obtain ⟨a, kvs, ks, ex, hd, hks, h64, q⟩ := q
  subst ex
  obtain ⟨u, eu, rx⟩ := vals1 r
  subst eu
  cases rx
  obtain ⟨z, lo, vs, rel, dd⟩ := dk_rd I.hok hd
  obtain ⟨ep, hat⟩ := dd.dictAt
  have hkeys : vs.map (·.1) = ks.map Sum.inl := rel.keys.symm.trans hks
  have hl : vs.length = ks.length := by
    have e := congrArg List.length hkeys
    rw [List.length_map, List.length_map] at e
    exact e
  have h16 : vs.length ≤ sizeLine := by rw [hl]; exact h64
  refine Calls.call_function_entry PyProof.Rows.kind_sorted PyProof.Rows.plain_sorted PyProof.Rows.entry_sorted (PyProof.Rows.args_sorted1 _) ?_
  unfold Builtin.«sorted»
  refine wpAny_bind (m := checkCount "sorted" 1 1 _) (wpAny_pure ?_)
  refine wpAny_bind (PySem.W.kdu_collect (A := X.A.in1) (PySem.W.kdl_dict (knd := mixKind X.prog X.w) (kvs := vs) (ep := ep) lo) (I.ok.hd hcalm) hat h16 fun h' tk acc hk hacc => ?_)
  have hal : acc.toList.length = ks.length := by rw [Array.length_toList, hacc.1, hl]
  have hS : IntsAre acc.toList ks := ints_each hal fun j v e => by
    obtain ⟨k, x, e1, e2⟩ := hacc.2 j v (by rw [← Array.getElem?_toList]; exact e)
    have e3 : (vs.map (·.1))[j]? = some k := by rw [List.getElem?_map, e1]; rfl
    rw [hkeys, List.getElem?_map] at e3
    cases e4 : ks[j]? with
    | none => rw [e4] at e3; cases e3
    | some y =>
      rw [e4] at e3
      have e5 : Sum.inl y = k := Option.some.inj e3
      subst e5
      rcases keyIs_shape (show keyIs (Sum.inl y) v = true from e2) with ⟨i, t, ek, ev⟩ | ⟨z, t, ek, ev⟩
      · cases ek
        exact ⟨y, t, rfl, ev⟩
      · cases ek
  have I1 : Inv X pins σ H { s with heap := h', toks := tk } := I.kept hk
  refine wpAny_bind (wpAny_newList ?_ (by rw [hal]; exact h64))
  have hoL : (h'.push (seqObj "list" acc.toList.toArray 0)).get? h'.objs.size = some (seqObj "list" acc.toList.toArray 0) := Heap.get?_push_size _ rfl
  show wpAny _ _ _ _ _ { s with heap := h'.push (seqObj "list" acc.toList.toArray 0), toks := tk }
  refine wpAny_bind (wpAny_holding (wpAny_call_entry PyProof.Rows.slot_list_sort ⟨_, hoL, rfl⟩ PyProof.Rows.entry_list_sort
    (SrtO.list_sort_ord (s := { s with heap := h'.push (seqObj "list" acc.toList.toArray 0), toks := tk }) SrtO.swo_int hoL (by rw [hal]; exact h64) (fun h2 => SrtO.ints_sortable hS h2) fun out g1 g2 => ⟨_, rfl, ?_⟩) (PyProof.Rows.args_list_sort _)))
  obtain ⟨k1, k2, k3⟩ := SrtO.ints_out hS g1 g2
  obtain ⟨e', he'⟩ := PyProof.Rows.sortedHeap_at (vs := acc.toList) (out := out.toArray) hoL
  have hlen : ((out.map SrtO.iv).map V.int).length ≤ sizeLine := by
    rw [List.length_map, k2.length_eq]
    exact h64
  refine wpAny_pure ⟨_, rfl, .ref h'.objs.size, upd H h'.objs.size (.lst ((out.map SrtO.iv).map V.int)), I1.laid (t' := tk) (fun b u e => ?_) (Nat.le_refl _)
    (show ObjOk X.prog X.w _ _ _ (.lst ((out.map SrtO.iv).map V.int)) from ⟨hlen, out, e', vals_of_ints k1, he'⟩), rfl, q _ _ k2 k3 (I1.hok.fresh (Nat.le_refl _))⟩
  have hb : b < h'.objs.size := Heap.lt_size e
  rw [PyProof.Rows.sortedHeap_old (Nat.ne_of_lt hb) (by rw [size_push']; exact Nat.lt_succ_of_lt hb)]
  exact Heap.get?_push_of_some _ e
end
end L2

/-! the numbers of one house: what stands, what is promised -/
namespace K
open PySem PySem.Spec PyProof.Rows L2
def heldK (us : List Int) : List (Key × V) := us.map fun i => (Sum.inl i, V.bl true)
theorem held_keys (us : List Int) : (heldK us).map (·.1) = us.map Sum.inl := by
  unfold heldK
  rw [List.map_map]
  rfl
theorem held_val (i : Int) : ∀ us : List Int, valV (heldK us) (Sum.inl i) = if i ∈ us then some (.bl true) else none
  | [] => rfl
  | j :: us => by
    by_cases e : j = i
    · subst e
      rw [if_pos List.mem_cons_self]
      exact valV_pos rfl
    · have e2 : ¬ (Sum.inl j : Key) = Sum.inl i := fun z => e (Sum.inl.inj z)
      rw [show heldK (j :: us) = (Sum.inl j, V.bl true) :: heldK us from rfl, valV_neg e2, held_val i us]
      by_cases h : i ∈ us
      · rw [if_pos h, if_pos (List.mem_cons_of_mem _ h)]
      · rw [if_neg h, if_neg (fun z => by rcases List.mem_cons.mp z with q | q; exact e q.symm; exact h q)]
theorem held_in {i : Int} {us : List Int} (h : i ∈ us) : valV (heldK us) (Sum.inl i) = some (.bl true) := by rw [held_val, if_pos h]
theorem held_no {i : Int} {us : List Int} (h : ¬ i ∈ us) : valV (heldK us) (Sum.inl i) = none := by rw [held_val, if_neg h]
theorem held_put {i : Int} {us : List Int} (h : ¬ i ∈ us) : putK (heldK us) (Sum.inl i) (.bl true) = heldK (us ++ [i]) := by
  rw [putK_new _ (held_no h)]
  unfold heldK
  rw [List.map_append]
  rfl
theorem held_drop (i : Int) : ∀ us : List Int, us.Nodup → dropK (heldK us) (Sum.inl i) = heldK (us.erase i)
  | [], _ => rfl
  | j :: us, nd => by
    obtain ⟨n1, n2⟩ := List.nodup_cons.mp nd
    by_cases e : j = i
    · subst e
      rw [List.erase_cons_head, show heldK (j :: us) = (Sum.inl j, V.bl true) :: heldK us from rfl, dropK_pos rfl, dropK_no]
      rw [held_keys]
      intro z
      obtain ⟨x, hx, ex⟩ := List.mem_map.mp z
      cases ex
      exact n1 hx
    · have e2 : ¬ (Sum.inl j : Key) = Sum.inl i := fun z => e (Sum.inl.inj z)
      have e3 : (j == i) = false := by simpa using e
      rw [List.erase_cons_tail (by rw [e3]; exact Bool.false_ne_true), show heldK (j :: us) = (Sum.inl j, V.bl true) :: heldK us from rfl, dropK_neg e2, held_drop i us n2]
      rfl
/-- the numbers from x on, k of them, that are not among us -/
def spare (us : List Int) : Nat → Int → List Int
  | 0, _ => []
  | k + 1, x => if x ∈ us then spare us k (x + 1) else x :: spare us k (x + 1)
theorem spare_s (us : List Int) (k : Nat) (x : Int) : spare us (k + 1) x = if x ∈ us then spare us k (x + 1) else x :: spare us k (x + 1) := rfl
theorem spare_add (us : List Int) : ∀ (i j : Nat) (x : Int), spare us (i + j) x = spare us i x ++ spare us j (x + i)
  | 0, j, x => by simp [spare]
  | i + 1, j, x => by
    have e : x + 1 + (i : Int) = x + ((i + 1 : Nat) : Int) := by omega
    rw [show i + 1 + j = (i + j) + 1 by omega, spare_s, spare_s]
    by_cases h : x ∈ us
    · rw [if_pos h, if_pos h, spare_add us i j (x + 1), e]
    · rw [if_neg h, if_neg h, spare_add us i j (x + 1), e, List.cons_append]
theorem spare_succ (us : List Int) (i : Nat) (x : Int) : spare us (i + 1) x = spare us i x ++ (if x + i ∈ us then [] else [x + i]) := by
  rw [spare_add us i 1 x]
  rfl
theorem spare_len (us : List Int) : ∀ (i : Nat) (x : Int), (spare us i x).length ≤ i
  | 0, x => by simp [spare]
  | i + 1, x => by
    unfold spare
    have := spare_len us i (x + 1)
    by_cases h : x ∈ us
    · rw [if_pos h]; omega
    · rw [if_neg h, List.length_cons]; omega
theorem spare_mem (us : List Int) : ∀ (i : Nat) (x y : Int), y ∈ spare us i x → ¬ y ∈ us ∧ x ≤ y ∧ y < x + i
  | 0, x, y, h => by simp [spare] at h
  | i + 1, x, y, h => by
    unfold spare at h
    by_cases c : x ∈ us
    · rw [if_pos c] at h
      have := spare_mem us i (x + 1) y h
      exact ⟨this.1, by omega, by omega⟩
    · rw [if_neg c] at h
      rcases List.mem_cons.mp h with q | q
      · subst q; exact ⟨c, by omega, by omega⟩
      · have := spare_mem us i (x + 1) y q
        exact ⟨this.1, by omega, by omega⟩
/-- how many numbers a range has -/
def wide (lo hi : Int) : Nat := (hi + 1 - lo).toNat
def goodR (lo hi : Int) : Prop := 1 ≤ lo ∧ lo ≤ hi ∧ hi ≤ lo + 63 ∧ hi ≤ 9999
def numF (lo hi : Int) (d : Addr) : List (Str × V) := [("low", .int lo), ("high", .int hi), ("held", .ref d)]
def NumAt (H : Hp) (C x dx d : Addr) (lo hi : Int) (us : List Int) : Prop := H x = some (.ins C dx (numF lo hi d)) ∧ H d = some (.dK (heldK us))
theorem NumAt.same {H H' : Hp} {C x dx d : Addr} {lo hi : Int} {us : List Int} (h : NumAt H C x dx d lo hi us) (s : Same H H') : NumAt H' C x dx d lo hi us := ⟨s _ _ h.1, s _ _ h.2⟩
/-- a bare refusal in the air -/
def BareX (C : Addr) (wd : Str) (H : Hp) (E : XK) : Prop := ∀ (d : Addr) (H' : Hp), H d = none → Same H H' → H' d = some (.xd [("word", .str wd)]) → E (.ref C) (some d) H'
def TakenX (C : Addr) (i : Int) (H : Hp) (E : XK) : Prop := ∀ (d : Addr) (H' : Hp), H d = none → Same H H' → H' d = some (.xd [("number", .int i), ("word", .str "nottaken")]) → E (.ref C) (some d) H'
/-- C(): no field but the word -/
def spIn0 (K : PySem.W.Frag) (wd : Str) : Sp := fun vs H Q _ => ∃ (a C : Addr), vs = [.ref a] ∧ OexC K C ∧ PySem.W.findIn K (.ref C) "word" = some none ∧ H a = some (exo a C none) ∧
  ∀ (dx : Addr) (H' : Hp), H dx = none → dx ≠ a → (∀ b o, H b = some o → b ≠ a → H' b = some o) → H' a = some (exo a C (some dx)) → H' dx = some (exd dx [("word", .str wd)]) → Q .non H'
def spIsRange : Sp := fun vs H Q _ => ∃ lo hi : Int, vs = [.int lo, .int hi] ∧ ∀ b : Bool, (b = true ↔ goodR lo hi) → Q (.bl b) H
def spNumI (C : Addr) : Sp := fun vs H Q _ => ∃ (x dx : Addr) (lo hi : Int), vs = [.ref x, .int lo, .int hi] ∧ H x = some (.ins C dx []) ∧ goodR lo hi ∧
  ∀ (d : Addr) (H' : Hp), H d = none → (∀ b o, H b = some o → b ≠ x → H' b = some o) → NumAt H' C x dx d lo hi [] → Q .non H'
def spNTake (C CN : Addr) : Sp := fun vs H Q E => ∃ (x dx d : Addr) (lo hi : Int) (us : List Int), vs = [.ref x] ∧ NumAt H C x dx d lo hi us ∧ goodR lo hi ∧ us.length ≤ 1000 ∧
  (spare us (wide lo hi) lo = [] → BareX CN "nonumber" H E) ∧ (∀ i r, spare us (wide lo hi) lo = i :: r → Q (.int i) (upd H d (.dK (heldK (us ++ [i])))))
def spNGive (C CT : Addr) : Sp := fun vs H Q E => ∃ (x dx d : Addr) (lo hi i : Int) (us : List Int), vs = [.ref x, .int i] ∧ NumAt H C x dx d lo hi us ∧ us.Nodup ∧ i.natAbs.log2 < 1920 ∧
  (¬ i ∈ us → TakenX CT i H E) ∧ (i ∈ us → Q .non (upd H d (.dK (heldK (us.erase i)))))
def spNTaken (C : Addr) : Sp := fun vs H Q _ => ∃ (x dx d : Addr) (lo hi : Int) (us : List Int), vs = [.ref x] ∧ NumAt H C x dx d lo hi us ∧ us.length ≤ 1000 ∧
  ∀ (ys : List Int) (p : Addr), ys.Perm us → ys.Pairwise (· ≤ ·) → H p = none → Q (.ref p) (upd H p (.lst (ys.map V.int)))
def spNLeft (C : Addr) : Sp := fun vs H Q _ => ∃ (x dx d : Addr) (lo hi : Int) (us : List Int), vs = [.ref x] ∧ NumAt H C x dx d lo hi us ∧ Q (.int (hi - lo + 1 - us.length)) H
def spNHas (C : Addr) : Sp := fun vs H Q _ => ∃ (x dx d : Addr) (lo hi i : Int) (us : List Int), vs = [.ref x, .int i] ∧ NumAt H C x dx d lo hi us ∧ Q (.bl (decide (lo ≤ i ∧ i ≤ hi))) H
/-- what the top has written of the class -/
structure NumT (K : PySem.W.Frag) (mg : Str → Option Value) (C fI : Addr) : Prop where
  g : mg "Numbers" = some (.ref C)
  cl : Cls K C
  made : Mk K C fI
  nl : NoAttr K C "low"
  nh : NoAttr K C "high"
  nd : NoAttr K C "held"
/-- two increasing lists of the same numbers are one -/
theorem sorted_one {xs ys : List Int} (p : xs.Perm ys) (hx : xs.Pairwise (· ≤ ·)) (hy : ys.Pairwise (· ≤ ·)) : xs = ys :=
  p.eq_of_pairwise (fun a b _ _ h1 h2 => Int.le_antisymm h1 h2) hx hy
end K

/-! all ways without a house twice -/
namespace K
open Sw (T3 Dist at? Way IsFar IsNext Cand WayTo Le)
/-- a way that is under way: the houses ahead, the last one, the cost -/
abbrev Ent := List Nat × Nat × Nat
def joinE (g : Nat) (w : Ent) (a b m : Nat) : List Ent := if a = w.2.1 ∧ b ∉ w.1 ++ [w.2.1] ∧ w.2.1 ≠ g then [(w.1 ++ [w.2.1], b, w.2.2 + m)] else []
def ext1 (g : Nat) (w : Ent) (e : T3) : List Ent := joinE g w e.1 e.2.1 e.2.2 ++ joinE g w e.2.1 e.1 e.2.2
def extL (ts : List T3) (g : Nat) (w : Ent) : List Ent := ts.flatMap (ext1 g w)
def stepF (ts : List T3) (g : Nat) (fs : List Ent) : List Ent := fs.flatMap (extL ts g)
def foundK (ts : List T3) (s g : Nat) : Nat → List Ent
  | 0 => [([], s, 0)]
  | k + 1 => stepF ts g (foundK ts s g k)
def endE (g : Nat) (w : Ent) : List (Nat × List Nat) := if w.2.1 = g then [(w.2.2, w.1 ++ [w.2.1])] else []
def endsF (g : Nat) (fs : List Ent) : List (Nat × List Nat) := fs.flatMap (endE g)
def endsK (ts : List T3) (s g : Nat) : Nat → List (Nat × List Nat)
  | 0 => []
  | k + 1 => endsK ts s g k ++ endsF g (foundK ts s g k)
theorem joinE_len (g : Nat) (w : Ent) (a b m : Nat) : (joinE g w a b m).length ≤ 1 := by
  unfold joinE
  split <;> simp
theorem ext1_len {g : Nat} {w : Ent} {e : T3} (h : e.1 ≠ e.2.1) : (ext1 g w e).length ≤ 1 := by
  unfold ext1 joinE
  rw [List.length_append]
  by_cases h1 : (e.1 = w.2.1 ∧ e.2.1 ∉ w.1 ++ [w.2.1] ∧ w.2.1 ≠ g)
  · rw [if_pos h1, if_neg (fun h2 => h (h1.1.trans h2.1.symm))]
    simp
  · rw [if_neg h1]
    split <;> simp
theorem flatMap_len {α β : Type} {f : α → List β} {m : Nat} : ∀ {l : List α}, (∀ x ∈ l, (f x).length ≤ m) → (l.flatMap f).length ≤ l.length * m
  | [], _ => by simp
  | x :: l, h => by
    have h1 := h x List.mem_cons_self
    have h2 := flatMap_len (f := f) (l := l) fun y hy => h y (List.mem_cons_of_mem _ hy)
    rw [List.flatMap_cons, List.length_append, List.length_cons, Nat.succ_mul]
    omega
theorem extL_len {ts : List T3} {g : Nat} {w : Ent} (h : ∀ e ∈ ts, e.1 ≠ e.2.1) : (extL ts g w).length ≤ ts.length := by
  have := flatMap_len (f := ext1 g w) (m := 1) (l := ts) fun e m => ext1_len (h e m)
  unfold extL
  omega
theorem stepF_len {ts : List T3} {g : Nat} {fs : List Ent} (h : ∀ e ∈ ts, e.1 ≠ e.2.1) (hl : ts.length ≤ 14) : (stepF ts g fs).length ≤ fs.length * 14 :=
  flatMap_len fun w _ => Nat.le_trans (extL_len h) hl
theorem foundK_len {ts : List T3} {s g : Nat} (h : ∀ e ∈ ts, e.1 ≠ e.2.1) (hl : ts.length ≤ 14) : ∀ k, (foundK ts s g k).length ≤ 14 ^ k
  | 0 => by simp [foundK]
  | k + 1 => by
    have h1 := foundK_len (s := s) (g := g) h hl k
    have h2 := stepF_len (g := g) (fs := foundK ts s g k) h hl
    rw [Nat.pow_succ]
    show (stepF ts g (foundK ts s g k)).length ≤ _
    exact Nat.le_trans h2 (Nat.mul_le_mul_right _ h1)
theorem endsF_len (g : Nat) (fs : List Ent) : (endsF g fs).length ≤ fs.length := by
  have := flatMap_len (f := endE g) (m := 1) (l := fs) fun w _ => by unfold endE; split <;> simp
  unfold endsF
  omega
theorem joinE_mem {g : Nat} {w w' : Ent} {a b m : Nat} (h : w' ∈ joinE g w a b m) : a = w.2.1 ∧ w' = (w.1 ++ [w.2.1], b, w.2.2 + m) := by
  unfold joinE at h
  split at h
  · next c => exact ⟨c.1, by simpa using h⟩
  · cases h
/-- what is found leads there -/
theorem found_sound {ts : List T3} {s g : Nat} : ∀ (k : Nat) (w : Ent), w ∈ foundK ts s g k → ∀ j c, Way (both ts) g w.2.1 j c → ∃ j', Way (both ts) g s j' (w.2.2 + c)
  | 0, w, h, j, c, q => by
    have : w = ([], s, 0) := by simpa [foundK] using h
    subst this
    exact ⟨j, by rw [Nat.zero_add]; exact q⟩
  | k + 1, w', h, j, c, q => by
    obtain ⟨w, hw, hx⟩ := List.mem_flatMap.mp (show w' ∈ (foundK ts s g k).flatMap (extL ts g) from h)
    obtain ⟨e, he, hy⟩ := List.mem_flatMap.mp (show w' ∈ ts.flatMap (ext1 g w) from hx)
    have go : ∀ {a b m : Nat}, (a, b, m) ∈ both ts → w' ∈ joinE g w a b m → ∃ j', Way (both ts) g s j' (w'.2.2 + c) := fun {a b m} hm hj => by
      obtain ⟨e1, e2⟩ := joinE_mem hj
      subst e2
      have q2 : Way (both ts) g w.2.1 (j + 1) (m + c) := by
        rw [← e1]
        exact .cons hm q
      obtain ⟨j', q3⟩ := found_sound k w hw _ _ q2
      exact ⟨j', by show Way _ _ _ _ (w.2.2 + m + c); rw [Nat.add_assoc]; exact q3⟩
    rcases List.mem_append.mp hy with z | z
    · exact go ((both_mem ts _).mpr (.inl he)) z
    · exact go ((both_mem ts _).mpr (.inr he)) z
theorem endsK_mem {ts : List T3} {s g : Nat} {x : Nat × List Nat} : ∀ {n : Nat}, x ∈ endsK ts s g n ↔ ∃ k, k < n ∧ x ∈ endsF g (foundK ts s g k)
  | 0 => by simp [endsK]
  | n + 1 => by
    show x ∈ endsK ts s g n ++ endsF g (foundK ts s g n) ↔ _
    rw [List.mem_append, endsK_mem (n := n)]
    constructor
    · rintro (⟨k, hk, h⟩ | h)
      · exact ⟨k, by omega, h⟩
      · exact ⟨n, by omega, h⟩
    · rintro ⟨k, hk, h⟩
      by_cases e : k = n
      · subst e; exact .inr h
      · exact .inl ⟨k, by omega, h⟩
theorem ends_sound {ts : List T3} {s g n c : Nat} {w : List Nat} (h : (c, w) ∈ endsK ts s g n) : ∃ j, Way (both ts) g s j c := by
  obtain ⟨k, _, h⟩ := endsK_mem.mp h
  obtain ⟨x, hx, hy⟩ := List.mem_flatMap.mp (show (c, w) ∈ (foundK ts s g k).flatMap (endE g) from h)
  unfold endE at hy
  split at hy
  · next e =>
    have hy : (c, w) = (x.2.2, x.1 ++ [x.2.1]) := by simpa using hy
    have q := found_sound k x hx 0 0 (by rw [e]; exact .nil)
    obtain ⟨j, q⟩ := q
    have e2 : c = x.2.2 := congrArg Prod.fst hy
    exact ⟨j, by rw [e2]; exact q⟩
  · cases hy
/-- the told way is found -/
theorem way_found {ts : List T3} {s g n : Nat} {d : Dist} (f : IsFar (both ts) n g d) (hP : ∀ a b c, (a, b, c) ∈ both ts → 1 ≤ c) : ∀ {x : Nat} {l : List Nat}, WayTo (both ts) d g x l → ∀ (k : Nat) (pre : List Nat) (c dx : Nat), (pre, x, c) ∈ foundK ts s g k → at? d x = some dx → (∀ y ∈ pre, ∃ m, at? d y = some m ∧ dx < m) → (c + dx, pre ++ l) ∈ endsF g (foundK ts s g (k + (l.length - 1))) := by
  intro x l hw
  induction hw with
  | here =>
    intro k pre c dx hm hx _
    rw [Sw.far_goal f] at hx
    cases hx
    refine List.mem_flatMap.mpr ⟨_, hm, ?_⟩
    unfold endE
    rw [if_pos rfl]
    simp
  | @step h u l hn hl ih =>
    intro k pre c dx hm hx hpre
    obtain ⟨p, y, he, hy, hz⟩ := hn.2.2.1
    rw [hx] at hz
    cases hz
    have hp := hP _ _ _ he
    have hlen : 1 ≤ l.length := by cases hl <;> simp
    have hnot : u ∉ pre ++ [h] := fun z => by
      rcases List.mem_append.mp z with z | z
      · obtain ⟨m, e1, e2⟩ := hpre u z
        rw [hy] at e1
        cases e1
        omega
      · have : u = h := by simpa using z
        subst this
        rw [hx] at hy
        injection hy with hy
        omega
    have hin : (pre ++ [h], u, c + p) ∈ foundK ts s g (k + 1) := by
      refine List.mem_flatMap.mpr ⟨_, hm, List.mem_flatMap.mpr ?_⟩
      rcases (both_mem ts _).mp he with z | z
      · refine ⟨_, z, List.mem_append_left _ ?_⟩
        unfold joinE
        rw [if_pos ⟨rfl, hnot, hn.1⟩]
        exact List.mem_singleton.mpr rfl
      · refine ⟨_, z, List.mem_append_right _ ?_⟩
        unfold joinE
        rw [if_pos ⟨rfl, hnot, hn.1⟩]
        exact List.mem_singleton.mpr rfl
    have := ih (k + 1) (pre ++ [h]) (c + p) y hin hy (fun z hz => by
      rcases List.mem_append.mp hz with q | q
      · obtain ⟨m, e1, e2⟩ := hpre z q
        exact ⟨m, e1, by omega⟩
      · have : z = h := by simpa using q
        subst this
        exact ⟨y + p, hx, by omega⟩)
    rw [List.append_assoc] at this
    have e1 : c + p + y = c + (y + p) := by omega
    have e2 : k + 1 + (l.length - 1) = k + ((h :: l).length - 1) := by rw [List.length_cons]; omega
    rw [e1, e2] at this
    exact this
theorem wayto_simple {E : List T3} {n g : Nat} {d : Dist} (f : IsFar E n g d) (hP : ∀ a b c, (a, b, c) ∈ E → 1 ≤ c) : ∀ {x : Nat} {l : List Nat}, WayTo E d g x l → ∀ dx, at? d x = some dx → l.Nodup ∧ ∀ y ∈ l, ∃ m, at? d y = some m ∧ m ≤ dx := by
  intro x l hw
  induction hw with
  | here =>
    intro dx hx
    refine ⟨by simp, fun y hy => ?_⟩
    have : y = g := by simpa using hy
    subst this
    exact ⟨dx, hx, Nat.le_refl _⟩
  | @step h u l hn hl ih =>
    intro dx hx
    obtain ⟨p, y, he, hy, hz⟩ := hn.2.2.1
    rw [hx] at hz
    cases hz
    have hp := hP _ _ _ he
    obtain ⟨i1, i2⟩ := ih y hy
    refine ⟨List.nodup_cons.mpr ⟨fun z => ?_, i1⟩, fun z hz => ?_⟩
    · obtain ⟨m, e1, e2⟩ := i2 h z
      rw [hx] at e1
      cases e1
      omega
    · rcases List.mem_cons.mp hz with q | q
      · subst q; exact ⟨_, hx, Nat.le_refl _⟩
      · obtain ⟨m, e1, e2⟩ := i2 z q
        exact ⟨m, e1, by omega⟩
theorem at_lt {d : Dist} {v c : Nat} (h : at? d v = some c) : v < d.length := by
  unfold at? at h
  by_cases q : v < d.length
  · exact q
  · rw [List.getElem?_eq_none (by omega)] at h
    cases h
theorem least_ex {p : Nat → Prop} : ∀ u, p u → ∃ v, p v ∧ ∀ x, p x → v ≤ x := by
  intro u
  induction u using Nat.strongRecOn with
  | ind u ih =>
    intro hu
    by_cases h : ∃ x, p x ∧ x < u
    · obtain ⟨x, hx, hl⟩ := h
      exact ih x hl hx
    · exact ⟨u, hu, fun x hx => by
        by_cases q : u ≤ x
        · exact q
        · exact absurd ⟨x, hx, by omega⟩ h⟩
theorem wayto_ex {E : List T3} {n g : Nat} {d : Dist} (f : IsFar E n g d) (hP : ∀ a b c, (a, b, c) ∈ E → 1 ≤ c) : ∀ (c h : Nat), at? d h = some c → ∃ l, WayTo E d g h l := by
  intro c
  induction c using Nat.strongRecOn with
  | ind c ih =>
    intro h hc
    by_cases hg : h = g
    · subst hg; exact ⟨_, .here⟩
    · obtain ⟨u0, hu0⟩ := Sw.cand_ex f hg hc
      obtain ⟨u, hu, hmin⟩ := least_ex (p := Cand E d h) u0 hu0
      obtain ⟨p, y, he, hy, hz⟩ := id hu
      rw [hc] at hz
      cases hz
      have hp := hP _ _ _ he
      obtain ⟨l, hl⟩ := ih y (by omega) u hy
      exact ⟨_, .step ⟨hg, by rw [hc]; simp, hu, hmin⟩ hl⟩
/-- what all ways tell -/
theorem ends_some {ts : List T3} {s g n c : Nat} {d : Dist} (f : IsFar (both ts) n g d) (hP : ∀ a b c, (a, b, c) ∈ both ts → 1 ≤ c) (hc : at? d s = some c) : (∀ l, WayTo (both ts) d g s l → (c, l) ∈ endsK ts s g n) ∧ (∃ l, WayTo (both ts) d g s l) ∧ ∀ x ∈ endsK ts s g n, c ≤ x.1 := by
  refine ⟨fun l hl => ?_, wayto_ex f hP c s hc, fun x hx => ?_⟩
  · have h1 := way_found (s := s) f hP hl 0 [] 0 c (by simp [foundK]) hc (fun y hy => by cases hy)
    obtain ⟨nd, hlt⟩ := wayto_simple f hP hl c hc
    have hle := Sw.nodup_le n l nd fun y hy => by
      obtain ⟨m, e, _⟩ := hlt y hy
      have := at_lt e
      rw [f.len] at this
      exact this
    have h1l : 1 ≤ l.length := by cases hl <;> simp
    refine endsK_mem.mpr ⟨l.length - 1, by omega, ?_⟩
    simpa using h1
  · obtain ⟨c', w⟩ := x
    obtain ⟨j, q⟩ := ends_sound hx
    obtain ⟨z, ez, lz⟩ := f.least _ _ _ q _ rfl
    rw [hc] at ez
    cases ez
    exact lz
theorem ends_none {ts : List T3} {s g n : Nat} {d : Dist} (f : IsFar (both ts) n g d) (hc : at? d s = none) : endsK ts s g n = [] := by
  cases e : endsK ts s g n with
  | nil => rfl
  | cons x r =>
    obtain ⟨c, w⟩ := x
    obtain ⟨j, q⟩ := ends_sound (ts := ts) (s := s) (g := g) (n := n) (c := c) (w := w) (by rw [e]; exact List.mem_cons_self)
    obtain ⟨z, ez, lz⟩ := f.least _ _ _ q _ rfl
    rw [hc] at ez
    cases ez
/-! houses named anew -/
def ren (nm : Nat → Nat) (e : T3) : T3 := (nm e.1, nm e.2.1, e.2.2)
theorem both_ren {nm : Nat → Nat} {ts : List T3} {e : T3} : e ∈ both (ts.map (ren nm)) ↔ ∃ x ∈ both ts, e = ren nm x := by
  rw [both_mem]
  constructor
  · rintro (h | h)
    · obtain ⟨x, hx, q⟩ := List.mem_map.mp h
      exact ⟨x, (both_mem ts _).mpr (.inl hx), q.symm⟩
    · obtain ⟨x, hx, q⟩ := List.mem_map.mp h
      refine ⟨(x.2.1, x.1, x.2.2), (both_mem ts _).mpr (.inr hx), ?_⟩
      obtain ⟨a, b, c⟩ := e
      unfold ren at q ⊢
      simp only [Prod.mk.injEq] at q ⊢
      exact ⟨q.2.1.symm, q.1.symm, q.2.2.symm⟩
  · rintro ⟨x, hx, rfl⟩
    rcases (both_mem ts _).mp hx with z | z
    · exact .inl (List.mem_map.mpr ⟨x, z, rfl⟩)
    · exact .inr (List.mem_map.mpr ⟨_, z, rfl⟩)
theorem far_ren {nm : Nat → Nat} {ts : List T3} {n g s : Nat} {d d' : Dist} (hinj : ∀ a b, a < n → b < n → nm a = nm b → a = b) (hF : Fits n ts) (hg : g < n) (hs : s < n) (f : IsFar (both ts) n g d) (f' : IsFar (both (ts.map (ren nm))) n (nm g) d') : at? d' (nm s) = at? d s := by
  have fw : ∀ {v k c}, Way (both ts) g v k c → Way (both (ts.map (ren nm))) (nm g) (nm v) k c := fun {v k c} w => by
    induction w with
    | nil => exact .nil
    | cons he _ ih => exact .cons (both_ren.mpr ⟨_, he, rfl⟩) ih
  have bw : ∀ {v' k c}, Way (both (ts.map (ren nm))) (nm g) v' k c → ∀ v, v < n → v' = nm v → Way (both ts) g v k c := fun {v' k c} w => by
    induction w with
    | nil =>
      intro v hv e
      have := hinj _ _ hg hv e
      subst this
      exact .nil
    | @cons a b p k c he _ ih =>
      intro v hv e
      obtain ⟨x, hx, q⟩ := both_ren.mp he
      obtain ⟨x1, x2, x3⟩ := x
      have hb := both_lt hF _ hx
      unfold ren at q
      simp only [Prod.mk.injEq] at q
      have e1 : x1 = v := hinj _ _ hb.1 hv (q.1.symm.trans e)
      subst e1
      have w2 := ih x2 hb.2 q.2.1
      rw [q.2.2]
      exact .cons hx w2
  cases h1 : at? d s with
  | some c =>
    obtain ⟨k, w⟩ := f.way s c h1
    obtain ⟨c', e', l'⟩ := f'.least _ _ _ (fw w) _ rfl
    obtain ⟨k2, w2⟩ := f'.way _ _ e'
    obtain ⟨c2, e2, l2⟩ := f.least _ _ _ (bw w2 s hs rfl) _ rfl
    rw [h1] at e2
    cases e2
    rw [e']
    congr 1
    omega
  | none =>
    cases h2 : at? d' (nm s) with
    | none => rfl
    | some c =>
      obtain ⟨k2, w2⟩ := f'.way _ _ h2
      obtain ⟨c2, e2, l2⟩ := f.least _ _ _ (bw w2 s hs rfl) _ rfl
      rw [h1] at e2
      cases e2
end K

/-! ways both ways about, cuts -/
namespace Sw
def Sym (E : List T3) : Prop := ∀ a b c, (a, b, c) ∈ E → (b, a, c) ∈ E
theorem Way.snoc {E : List T3} {g v k c : Nat} (w : Way E g v k c) : ∀ {h p : Nat}, (g, h, p) ∈ E → Way E h v (k + 1) (c + p) := by
  induction w with
  | nil =>
    intro h p m
    have := Way.cons m (Way.nil (E := E) (g := h))
    rw [Nat.add_zero] at this
    rw [Nat.zero_add p]
    exact this
  | @cons a b q k c he _ ih =>
    intro h p m
    have := Way.cons he (ih m)
    rw [← Nat.add_assoc] at this
    exact this
theorem Way.rev {E : List T3} (hs : Sym E) {g v k c : Nat} (w : Way E g v k c) : Way E v g k c := by
  induction w with
  | nil => exact .nil
  | @cons a b p k c he _ ih =>
    have := ih.snoc (hs _ _ _ he)
    rw [Nat.add_comm c p] at this
    exact this
theorem Way.trans {E : List T3} {g v k c : Nat} (w : Way E g v k c) : ∀ {h k' c' : Nat}, Way E h g k' c' → ∃ k2 c2, Way E h v k2 c2 := by
  induction w with
  | nil => intro h k' c' w'; exact ⟨_, _, w'⟩
  | cons he _ ih =>
    intro h k' c' w'
    obtain ⟨k2, c2, w2⟩ := ih w'
    exact ⟨_, _, .cons he w2⟩
theorem far_some {E : List T3} {n g v k c : Nat} {d : Dist} (f : IsFar E n g d) (w : Way E g v k c) : ∃ y, at? d v = some y := by
  obtain ⟨y, e, _⟩ := f.least v k c w c rfl
  exact ⟨y, e⟩
theorem far_sym {E : List T3} {n s g : Nat} {d d' : Dist} (hs : Sym E) (f : IsFar E n g d) (f' : IsFar E n s d') : at? d s = at? d' g := by
  cases e : at? d s with
  | none =>
    cases e' : at? d' g with
    | none => rfl
    | some c =>
      obtain ⟨k, w⟩ := f'.way _ _ e'
      obtain ⟨y, ey⟩ := far_some f (w.rev hs)
      rw [e] at ey
      cases ey
  | some c =>
    obtain ⟨k, w⟩ := f.way _ _ e
    obtain ⟨z, ez, lz⟩ := f'.least _ _ _ (w.rev hs) _ rfl
    obtain ⟨k2, w2⟩ := f'.way _ _ ez
    obtain ⟨z2, ez2, lz2⟩ := f.least _ _ _ (w2.rev hs) _ rfl
    rw [e] at ez2
    cases ez2
    rw [ez]
    congr 1
    omega
theorem wayto_steps {E : List T3} {d : Dist} {g h : Nat} {l : List Nat} (w : WayTo E d g h l) : ∀ (i a b : Nat), l[i]? = some a → l[i + 1]? = some b → ∃ c y, (a, b, c) ∈ E ∧ at? d b = some y ∧ at? d a = some (y + c) := by
  induction w with
  | here => intro i a b h1 h2; simp at h2
  | @step h u l hn hl ih =>
    intro i a b h1 h2
    cases i with
    | zero =>
      simp at h1
      subst h1
      have hb : l[0]? = some b := by simpa using h2
      have hu : l[0]? = some u := by cases hl <;> rfl
      rw [hu] at hb
      cases hb
      exact hn.2.2.1
    | succ i => exact ih i a b (by simpa using h1) (by simpa using h2)
theorem wayto_first {E : List T3} {d : Dist} {g h : Nat} {l : List Nat} (w : WayTo E d g h l) : ∃ r, l = h :: r := by cases w <;> exact ⟨_, rfl⟩
theorem wayto_last {E : List T3} {d : Dist} {g h : Nat} {l : List Nat} (w : WayTo E d g h l) : l[l.length - 1]? = some g := by
  induction w with
  | here => rfl
  | @step h u l hn hl ih =>
    obtain ⟨r, rfl⟩ := wayto_first hl
    exact ih
theorem lot_mem {n : Nat} {d : Dist} {v : Nat} : v ∈ lotOf n d ↔ v < n ∧ ∃ c, at? d v = some c := by
  unfold lotOf
  rw [List.mem_filter, List.mem_range]
  constructor
  · rintro ⟨h1, h2⟩
    exact ⟨h1, Option.isSome_iff_exists.mp h2⟩
  · rintro ⟨h1, c, h2⟩
    exact ⟨h1, by rw [h2]; rfl⟩
theorem range_lt (n : Nat) : (List.range n).Pairwise (· < ·) := List.pairwise_lt_range
theorem lot_sorted (n : Nat) (d : Dist) : (lotOf n d).Pairwise (· < ·) := (range_lt n).sublist List.filter_sublist
end Sw
namespace K
open Sw
theorem both_symS (ts : List T3) : Sym (both ts) := fun a b c m => by
  rcases (both_mem ts _).mp m with q | q
  · exact (both_mem ts _).mpr (.inr q)
  · exact (both_mem ts _).mpr (.inl q)
theorem lft_comm (ts : List T3) (u v : Nat) : lft ts u v = lft ts v u := by
  unfold lft
  congr 1
  funext e
  rw [Bool.or_comm, Bool.and_comm (e.2.1 == u), Bool.and_comm (e.1 == u)]
theorem lft_mem {ts : List T3} {u v : Nat} {e : T3} : e ∈ lft ts u v ↔ e ∈ ts ∧ ¬ (e.1 = u ∧ e.2.1 = v) ∧ ¬ (e.2.1 = u ∧ e.1 = v) := by
  unfold lft
  rw [List.mem_filter]
  constructor
  · rintro ⟨h1, h2⟩
    simp only [Bool.not_eq_true', Bool.or_eq_false_iff, Bool.and_eq_false_imp, beq_iff_eq] at h2
    refine ⟨h1, fun z => ?_, fun z => ?_⟩
    · have := h2.1 z.1
      simp [z.2] at this
    · have := h2.2 z.1
      simp [z.2] at this
  · rintro ⟨h1, h2, h3⟩
    refine ⟨h1, ?_⟩
    simp only [Bool.not_eq_true', Bool.or_eq_false_iff, Bool.and_eq_false_imp, beq_iff_eq]
    refine ⟨fun z => ?_, fun z => ?_⟩
    · simp; exact fun q => h2 ⟨z, q⟩
    · simp; exact fun q => h3 ⟨z, q⟩
/-- the pair of houses of a tie -/
def pr (e : T3) : Nat × Nat := (e.1, e.2.1)
theorem filter_one {α β : Type} {f : α → β} {p : α → Bool} : ∀ {ts : List α} {e : α}, (ts.map f).Nodup → e ∈ ts → (∀ t ∈ ts, p t = true ↔ f t = f e) → ts.filter p = [e]
  | t :: ts, e, nd, m, hp => by
    rw [List.map_cons, List.nodup_cons] at nd
    rcases List.mem_cons.mp m with q | q
    · subst q
      have h1 : p e = true := (hp e List.mem_cons_self).mpr rfl
      rw [List.filter_cons, if_pos h1]
      congr 1
      rw [List.filter_eq_nil_iff]
      intro t ht z
      exact nd.1 (by rw [← (hp t (List.mem_cons_of_mem _ ht)).mp z]; exact List.mem_map_of_mem ht)
    · have h1 : ¬ p t = true := fun z => nd.1 (by rw [(hp t List.mem_cons_self).mp z]; exact List.mem_map_of_mem q)
      rw [List.filter_cons, if_neg h1]
      exact filter_one nd.2 q fun t ht => hp t (List.mem_cons_of_mem _ ht)
/-- the ties between two houses -/
theorem ties_of {ts : List T3} {n u v c : Nat} (hG : Good n ts) (nd : (ts.map pr).Nodup) (m : (u, v, c) ∈ both ts) : ts.filter (fun e => decide (e.1 = min u v ∧ e.2.1 = max u v)) = [(min u v, max u v, c)] := by
  rcases (both_mem ts _).mp m with q | q
  · have hg := hG _ q
    have hg1 : u < v := hg.1
    have e1 : min u v = u := Nat.min_eq_left (Nat.le_of_lt hg1)
    have e2 : max u v = v := Nat.max_eq_right (Nat.le_of_lt hg1)
    rw [e1, e2]
    refine filter_one nd q fun t ht => ?_
    rw [decide_eq_true_eq]
    unfold pr
    simp only [Prod.mk.injEq]
  · have hg := hG _ q
    have hg1 : v < u := hg.1
    have e1 : min u v = v := Nat.min_eq_right (Nat.le_of_lt hg1)
    have e2 : max u v = u := Nat.max_eq_left (Nat.le_of_lt hg1)
    rw [e1, e2]
    refine filter_one nd q fun t ht => ?_
    rw [decide_eq_true_eq]
    unfold pr
    simp only [Prod.mk.injEq]
/-- out of the lot only the tie itself leads -/
theorem cut_out {ts : List T3} {n : Nat} {e : T3} (hG : Good n ts) (nd : (ts.map pr).Nodup) (he : e ∈ ts) (h0 : at? (farD n (lft ts e.1 e.2.1) e.1) e.2.1 = none) :
    ts.filter (fun t => decide (decide (t.1 ∈ lotOf n (farD n (lft ts e.1 e.2.1) e.1)) ≠ decide (t.2.1 ∈ lotOf n (farD n (lft ts e.1 e.2.1) e.1)))) = [e] := by
  have hg := hG _ he
  have hF : Fits n (lft ts e.1 e.2.1) := lft_fits hG.fits
  have f := farD_is (g := e.1) hF (by omega)
  have h1 : e.1 ∈ lotOf n (farD n (lft ts e.1 e.2.1) e.1) := lot_mem.mpr ⟨by omega, 0, far_goal f⟩
  have h2 : ¬ e.2.1 ∈ lotOf n (farD n (lft ts e.1 e.2.1) e.1) := fun z => by
    obtain ⟨_, c, ec⟩ := lot_mem.mp z
    rw [h0] at ec
    cases ec
  refine filter_one nd he fun t ht => ?_
  rw [decide_eq_true_eq]
  constructor
  · intro hne
    apply Classical.byContradiction
    intro hp
    have hgt := hG _ ht
    have ml : t ∈ lft ts e.1 e.2.1 := lft_mem.mpr ⟨ht, fun z => hp (by unfold pr; rw [z.1, z.2]), fun z => by omega⟩
    apply hne
    rw [decide_eq_decide, lot_mem, lot_mem]
    have m1 : (t.1, t.2.1, t.2.2) ∈ both (lft ts e.1 e.2.1) := (both_mem _ _).mpr (.inl ml)
    constructor
    · rintro ⟨_, c, ec⟩
      obtain ⟨k, w⟩ := f.way _ _ ec
      exact ⟨by omega, far_some f (.cons (both_symS _ _ _ _ m1) w)⟩
    · rintro ⟨_, c, ec⟩
      obtain ⟨k, w⟩ := f.way _ _ ec
      exact ⟨by omega, far_some f (.cons m1 w)⟩
  · intro hp
    have e1 : t.1 = e.1 := congrArg (fun q : Nat × Nat => q.1) hp
    have e2 : t.2.1 = e.2.1 := congrArg (fun q : Nat × Nat => q.2) hp
    rw [e1, e2, decide_eq_true h1, decide_eq_false h2]
    exact fun z => by cases z
/-- what the other end can come to lies outside the lot -/
theorem cut_apart {ts : List T3} {n u v h : Nat} (hF : Fits n ts) (hu : u < n) (hv : v < n) (h0 : at? (farD n ts u) v = none) (m : h ∈ lotOf n (farD n ts v)) : ¬ h ∈ lotOf n (farD n ts u) := fun z => by
  have fu := farD_is hF hu
  have fv := farD_is hF hv
  obtain ⟨_, c, ec⟩ := lot_mem.mp m
  obtain ⟨_, c', ec'⟩ := lot_mem.mp z
  obtain ⟨k, w⟩ := fv.way _ _ ec
  obtain ⟨k', w'⟩ := fu.way _ _ ec'
  obtain ⟨k2, c2, w2⟩ := (w.rev (both_symS ts)).trans w'
  obtain ⟨y, ey⟩ := far_some fu w2
  rw [h0] at ey
  cases ey
/-- the pairs of houses, in the order in which the law draws them -/
def rowP (i m : Nat) : List (Nat × Nat) := (List.range m).map fun t => (i, i + 1 + t)
def pairsL (n : Nat) : List (Nat × Nat) := (List.range n).flatMap fun i => rowP i (n - (i + 1))
theorem pairsL_nodup : ∀ n ≤ 8, (pairsL n).Nodup := by decide +kernel
theorem pairsL_len : ∀ n ≤ 8, (pairsL n).length ≤ 64 := by decide +kernel
theorem pairsL_mem {n : Nat} {p : Nat × Nat} (h : p ∈ pairsL n) : p.1 < p.2 ∧ p.2 < n := by
  unfold pairsL rowP at h
  obtain ⟨i, hi, hp⟩ := List.mem_flatMap.mp h
  obtain ⟨t, ht, e⟩ := List.mem_map.mp hp
  subst e
  have h1 := List.mem_range.mp hi
  have h2 := List.mem_range.mp ht
  show i < i + 1 + t ∧ i + 1 + t < n
  omega
end K

/-! list(zip(t, u)), t and u tuples: the pairs are new tuples, all held by the list -/
namespace SwZ
open PySem PySem.Spec PyProof.Rows
section
variable {prog : Program} {w : World} {A : Around} {E : Value → Shared → Prop} {s : Shared} {z TI TO i1 i2 T : Addr} {fp1 fp2 : List Addr} {n1 n2 i : Nat} {P1 P2 : Nat → Value → Prop} {St1 St2 : Nat → Heap → Prop} {f : Bool} {oT : Obj}
theorem item_held {Q : Value → Shared → Prop} (S : ZipSep2 z TI TO i1 i2 fp1 fp2) (D1 : Draws prog w A i1 fp1 n1 P1 St1) (D2 : Draws prog w A i2 fp2 n2 P2 St2)
    (hz : IsZipHeld s.heap z TI TO T f) (hT : s.heap.get? T = some oT) (hTI : IsTupOf2 s.heap TI (.ref i1) (.ref i2)) (st1 : St1 i s.heap) (st2 : St2 i s.heap) (hlt1 : i < n1) (hlt2 : i < n2)
    (hQ : ∀ x1 x2 h' tk, P1 i x1 → P2 i x2 → IsZipHeld h' z TI TO T true → St1 (i + 1) h' → St2 (i + 1) h' → IsTupOf2 h' s.heap.objs.size x1 x2 → h'.objs.size = s.heap.objs.size + 1 →
      (∀ c o, c ≠ z → c ≠ i1 → c ≠ i2 → s.heap.get? c = some o → h'.get? c = some o) → Q (.ref s.heap.objs.size) { s with heap := h', toks := tk }) :
    wpAny (model prog w) A (Builtin.«zip.__next__» ⟨[.ref z], []⟩) (fun fin s' => ∃ v, fin = .done (.ret v) ∧ Q v s') E s := by
  obtain ⟨hp, g, d, tk0, os⟩ := s
  show wpAny _ _ (field (.ref z) 2 >>= _) _ _ _
  refine wpAny_bind (wpAny_field hz rfl (x := .bool false) rfl ?_)
  show wpAny _ _ (field (.ref z) 3 >>= _) _ _ _
  refine wpAny_bind (wpAny_field hz rfl (x := .ref TI) rfl ?_)
  refine wpAny_bind (wpAny_seqItems hTI rfl ?_)
  show wpAny _ _ (Builtin.SmallTypes.ownedTupleIsFree (.ref z) >>= _) _ _ _
  refine wpAny_bind (wpAny_tupleHeld_zip hz hT fun h₁ hz₁ hs₁ => ?_)
  replace hs₁ : Heap.SameBut z hp h₁ := hs₁
  simp only [Bool.false_eq_true, if_false]
  refine wpAny_bind ?_
  rw [← Array.forIn_toList]
  simp only [List.forIn_cons, List.forIn_nil]
  refine wpAny_bind (wpAny_bind (wpAny_holding ?_))
  show wpAny _ _ (Builtin.SmallTypes.nextOf (.ref i1) >>= _) _ _ ⟨h₁, g, d, tk0, os⟩
  refine wpAny_bind (D1.item i _ _ _ hlt1 (D1.over st1 hs₁ S.zf1) fun x1 h₂ tk1 hx1 sn1 hs₂ => wpAny_pure ?_)
  replace hs₂ : Heap.SameBut i1 h₁ h₂ := hs₂
  refine wpAny_pure ?_
  refine wpAny_bind (wpAny_bind (wpAny_holding ?_))
  show wpAny _ _ (Builtin.SmallTypes.nextOf (.ref i2) >>= _) _ _ ⟨h₂, g, d, tk1, os⟩
  refine wpAny_bind (D2.item i _ _ _ hlt2 (D2.over (D2.over st2 hs₁ S.zf2) hs₂ S.sep1_2) fun x2 h₃ tk2 hx2 sn2 hs₃ => wpAny_pure ?_)
  replace hs₃ : Heap.SameBut i2 h₂ h₃ := hs₃
  refine wpAny_pure (wpAny_pure ?_)
  show wpAny _ _ (newTuple [x1, x2] >>= _) _ _ ⟨h₃, g, d, tk2, os⟩
  refine wpAny_bind (wpAny_newTuple ?_)
  have hsz : h₃.objs.size = hp.objs.size := by rw [hs₃.1, hs₂.1, hs₁.1]
  have hz₃ : IsZipHeld h₃ z TI TO T true := hs₃.extBut _ _ S.zi2 (hs₂.extBut _ _ S.zi1 hz₁)
  have hk : ∀ c o, c ≠ z → c ≠ i1 → c ≠ i2 → hp.get? c = some o → h₃.get? c = some o := fun c o c1 c2 c3 e => hs₃.extBut _ _ c3 (hs₂.extBut _ _ c2 (hs₁.extBut _ _ c1 e))
  refine wpAny_pure ⟨_, rfl, ?_⟩
  show Q (.ref h₃.objs.size) _
  have hp2 : IsTupOf2 (h₃.push { cls := .type "tuple", data := .seq #[x1, x2] }) h₃.objs.size x1 x2 := Heap.get?_push_size _ rfl
  have hz4 : (h₃.push { cls := .type "tuple", data := .seq #[x1, x2] }).objs.size = h₃.objs.size + 1 := Heap.size_push ..
  rw [hsz] at hp2 hz4 ⊢
  exact hQ x1 x2 _ tk2 hx1 hx2 (Heap.get?_push_of_some _ hz₃) (D1.frame _ _ _ (D1.over sn1 hs₃ S.sep2_1) fun b _ o e => Heap.get?_push_of_some _ e) (D2.frame _ _ _ sn2 fun b _ o e => Heap.get?_push_of_some _ e) hp2 hz4 fun c o c1 c2 c3 e => Heap.get?_push_of_some _ (hk c o c1 c2 c3 e)
theorem end_held {Q : Fin → Shared → Prop} (S : ZipSep2 z TI TO i1 i2 fp1 fp2) (D1 : Draws prog w A i1 fp1 n1 P1 St1) (D2 : Draws prog w A i2 fp2 n2 P2 St2)
    (hz : IsZipHeld s.heap z TI TO T f) (hT : s.heap.get? T = some oT) (hTI : IsTupOf2 s.heap TI (.ref i1) (.ref i2)) (st1 : St1 i s.heap) (st2 : St2 i s.heap) (hle1 : i ≤ n1) (hle2 : i ≤ n2) (hend : i = n1 ∨ i = n2)
    (hE : ∀ h' tk e, (∀ c o, c ≠ z → c ≠ i1 → c ≠ i2 → s.heap.get? c = some o → h'.get? c = some o) → (∃ o, h'.get? e = some o ∧ o.cls = .type "StopIteration") → E (.ref e) { s with heap := h', toks := tk }) :
    wpAny (model prog w) A (Builtin.«zip.__next__» ⟨[.ref z], []⟩) Q E s := by
  obtain ⟨hp, g, d, tk0, os⟩ := s
  show wpAny _ _ (field (.ref z) 2 >>= _) _ _ _
  refine wpAny_bind (wpAny_field hz rfl (x := .bool false) rfl ?_)
  show wpAny _ _ (field (.ref z) 3 >>= _) _ _ _
  refine wpAny_bind (wpAny_field hz rfl (x := .ref TI) rfl ?_)
  refine wpAny_bind (wpAny_seqItems hTI rfl ?_)
  show wpAny _ _ (Builtin.SmallTypes.ownedTupleIsFree (.ref z) >>= _) _ _ _
  refine wpAny_bind (wpAny_tupleHeld_zip hz hT fun h₁ hz₁ hs₁ => ?_)
  replace hs₁ : Heap.SameBut z hp h₁ := hs₁
  simp only [Bool.false_eq_true, if_false]
  refine wpAny_bind ?_
  rw [← Array.forIn_toList]
  simp only [List.forIn_cons, List.forIn_nil]
  refine wpAny_bind (wpAny_bind (wpAny_holding ?_))
  show wpAny _ _ (Builtin.SmallTypes.nextOf (.ref i1) >>= _) _ _ ⟨h₁, g, d, tk0, os⟩
  by_cases hlt1 : i < n1
  · refine wpAny_bind (D1.item i _ _ _ hlt1 (D1.over st1 hs₁ S.zf1) fun x1 h₂ tk1 hx1 sn1 hs₂ => wpAny_pure ?_)
    replace hs₂ : Heap.SameBut i1 h₁ h₂ := hs₂
    refine wpAny_pure ?_
    have hi2 : i = n2 := by omega
    refine wpAny_bind (wpAny_bind (wpAny_holding ?_))
    show wpAny _ _ (Builtin.SmallTypes.nextOf (.ref i2) >>= _) _ _ ⟨h₂, g, d, tk1, os⟩
    refine wpAny_bind (D2.done ⟨h₂, g, d, tk1, os⟩ _ _ (by rw [← hi2]; exact D2.over (D2.over st2 hs₁ S.zf2) hs₂ S.sep1_2) fun q e hq he => ?_)
    replace hq : Heap.ExtBut i2 h₂ q := hq
    exact hE q tk1 e (fun c o cz c1 c2 x => hq _ _ c2 (hs₂.extBut _ _ c1 (hs₁.extBut _ _ cz x))) he
  · have hi1 : i = n1 := by omega
    refine wpAny_bind (D1.done ⟨h₁, g, d, tk0, os⟩ _ _ (by rw [← hi1]; exact D1.over st1 hs₁ S.zf1) fun q e hq he => ?_)
    replace hq : Heap.ExtBut i1 h₁ q := hq
    exact hE q tk0 e (fun c o cz c1 c2 x => hq _ _ c1 (hs₁.extBut _ _ cz x)) he
theorem next_held {Q : Option Value → Shared → Prop} (S : ZipSep2 z TI TO i1 i2 fp1 fp2) (D1 : Draws prog w A.in1 i1 fp1 n1 P1 St1) (D2 : Draws prog w A.in1 i2 fp2 n2 P2 St2)
    (hz : IsZipHeld s.heap z TI TO T f) (hT : s.heap.get? T = some oT) (hTI : IsTupOf2 s.heap TI (.ref i1) (.ref i2)) (st1 : St1 i s.heap) (st2 : St2 i s.heap) (hlt1 : i < n1) (hlt2 : i < n2)
    (hQ : ∀ x1 x2 h' tk, P1 i x1 → P2 i x2 → IsZipHeld h' z TI TO T true → St1 (i + 1) h' → St2 (i + 1) h' → IsTupOf2 h' s.heap.objs.size x1 x2 → h'.objs.size = s.heap.objs.size + 1 →
      (∀ c o, c ≠ z → c ≠ i1 → c ≠ i2 → s.heap.get? c = some o → h'.get? c = some o) → Q (some (.ref s.heap.objs.size)) { s with heap := h', toks := tk }) :
    wpAny (model prog w) A (pyNext (.ref z)) Q E s := by
  have hTy : s.TypeIs (.ref z) "zip" := ⟨_, hz, rfl⟩
  unfold pyNext
  exact wpAny_bind (wpAny_attempt (wpAny_callSpecial?_slot (name := Str.ofString "__next__") hTy F.slot_zip_next
    (wpAny_call_entry F.slot_zip_next hTy F.entry_zip_next
      (item_held S D1 D2 hz hT hTI st1 st2 hlt1 hlt2 fun x1 x2 h' tk y1 y2 b1 d1 d2 b5 b6 b7 => wpAny_pure (hQ x1 x2 h' tk y1 y2 b1 d1 d2 b5 b6 b7)) (F.args_zip_next_1 _))))
theorem done_held {Q : Option Value → Shared → Prop} (S : ZipSep2 z TI TO i1 i2 fp1 fp2) (D1 : Draws prog w A.in1 i1 fp1 n1 P1 St1) (D2 : Draws prog w A.in1 i2 fp2 n2 P2 St2)
    (hz : IsZipHeld s.heap z TI TO T f) (hT : s.heap.get? T = some oT) (hTI : IsTupOf2 s.heap TI (.ref i1) (.ref i2)) (st1 : St1 i s.heap) (st2 : St2 i s.heap) (hle1 : i ≤ n1) (hle2 : i ≤ n2) (hend : i = n1 ∨ i = n2)
    (hQ : ∀ h' tk, (∀ c o, c ≠ z → c ≠ i1 → c ≠ i2 → s.heap.get? c = some o → h'.get? c = some o) → Q none { s with heap := h', toks := tk }) : wpAny (model prog w) A (pyNext (.ref z)) Q E s := by
  have hTy : s.TypeIs (.ref z) "zip" := ⟨_, hz, rfl⟩
  unfold pyNext
  refine wpAny_bind (wpAny_attempt (wpAny_callSpecial?_slot (name := Str.ofString "__next__") hTy F.slot_zip_next
    (wpAny_call_entry F.slot_zip_next hTy F.entry_zip_next (end_held S D1 D2 hz hT hTI st1 st2 hle1 hle2 hend fun h' tk e hk he => ?_) (F.args_zip_next_1 _))))
  obtain ⟨o, ho, hc⟩ := he
  refine wpAny_bind (wpAny_isInstance (T := "StopIteration") (b := true) ⟨o, ho, hc⟩ isSubtype_stop ?_)
  exact wpAny_pure (hQ _ _ hk)
end
theorem ne_k (N k l : Nat) (h : k ≠ l) : N + k ≠ N + l := by omega
theorem ab_k (N k : Nat) (h : k ≤ 5) : ¬ N + 5 < N + k := by omega
theorem lo_k (N k : Nat) : ¬ N + k < N := by omega
theorem zip_no_len : typeLookup (.type "zip") "__len__" = pure none := by rw [typeLookup_type, builtinLookup_eq_fast]; kernel_rfl
theorem zip_no_hint : typeLookup (.type "zip") "__length_hint__" = pure none := by rw [typeLookup_type, builtinLookup_eq_fast]; kernel_rfl
/-- the zip at N + 4 over the iterators N, N + 1 of the tuples t1, t2; i pairs were given out; all that it gave out lies above S -/
structure ZSt (h : Heap) (N S t1 t2 : Addr) (xs ys : Array Value) (i : Nat) : Prop where
  z : IsZip h (N + 4) (N + 2) (N + 3) .none ∨ ∃ T f oT, IsZipHeld h (N + 4) (N + 2) (N + 3) T f ∧ h.get? T = some oT ∧ S < T
  ti : IsTupOf2 h (N + 2) (.ref N) (.ref (N + 1))
  to : ∃ a1 a2, IsTupOf2 h (N + 3) a1 a2
  s1 : h.IsTupleIter N t1 i ∧ h.IsTuple t1 xs
  s2 : h.IsTupleIter (N + 1) t2 i ∧ h.IsTuple t2 ys
theorem ZSt.keep {h h' : Heap} {N S t1 t2 : Addr} {xs ys : Array Value} {i : Nat} (x : ZSt h N S t1 t2 xs ys i) (hS : S = N + 5) (h1 : t1 < N) (h2 : t2 < N) (hk : ∀ b o, b ≠ S → h.get? b = some o → h'.get? b = some o) : ZSt h' N S t1 t2 xs ys i := by
  subst hS
  have ne : ∀ k : Nat, k < 5 → (N + k : Nat) ≠ N + 5 := fun k hk => ne_k N k 5 (by omega)
  have n1 : (t1 : Nat) ≠ N + 5 := Nat.ne_of_lt (Nat.lt_of_lt_of_le h1 (Nat.le_add_right _ _))
  have n2 : (t2 : Nat) ≠ N + 5 := Nat.ne_of_lt (Nat.lt_of_lt_of_le h2 (Nat.le_add_right _ _))
  have n0 : (N : Nat) ≠ N + 5 := ne 0 (by omega)
  refine ⟨?_, hk _ _ (ne 2 (by omega)) x.ti, ?_, ⟨x.s1.1.at fun o e => hk _ o n0 e, x.s1.2.at fun o e => hk _ o n1 e⟩, ⟨x.s2.1.at fun o e => hk _ o (ne 1 (by omega)) e, x.s2.2.at fun o e => hk _ o n2 e⟩⟩
  · rcases x.z with q | ⟨T, f, oT, q1, q2, q3⟩
    · exact .inl (hk _ _ (ne 4 (by omega)) q)
    · exact .inr ⟨T, f, oT, hk _ _ (ne 4 (by omega)) q1, hk _ _ (Nat.ne_of_gt q3) q2, q3⟩
  · obtain ⟨a1, a2, q⟩ := x.to
    exact ⟨a1, a2, hk _ _ (ne 3 (by omega)) q⟩
section
variable {prog : Program} {w : World} {A : Around} {E : Value → Shared → Prop} {s : Shared} {N S t1 t2 : Addr} {xs ys : Array Value} {i : Nat}
theorem z_item {Q : Option Value → Shared → Prop} (hh : A.handled = none) (hst : ZSt s.heap N S t1 t2 xs ys i) (hS : S = N + 5) (h1 : t1 < N) (h2 : t2 < N) (hSl : S < s.heap.objs.size) (hx : i < xs.size) (hy : i < ys.size)
    (hQ : ∀ h' tk, ZSt h' N S t1 t2 xs ys (i + 1) → h'.get? s.heap.objs.size = some { cls := .type "tuple", data := .seq #[xs[i], ys[i]] } → h'.objs.size = s.heap.objs.size + 1 →
      (∀ b o, b ≠ N + 4 → b ≠ N + 3 → b ≠ N → b ≠ N + 1 → s.heap.get? b = some o → h'.get? b = some o) → Q (some (.ref s.heap.objs.size)) { s with heap := h', toks := tk }) :
    wpAny (model prog w) A (pyNext (.ref (N + 4))) Q E s := by
  have Sp : ZipSep2 (N + 4) (N + 2) (N + 3) N (N + 1) [N, t1] [N + 1, t2] := zip_sep2 (fp1 := [t1]) (fp2 := [t2]) (fun b hb => by simp at hb; subst hb; exact h1) (fun b hb => by simp at hb; subst hb; exact h2)
  have D1 : Draws prog w A.in1 N [N, t1] xs.size (fun i v => xs[i]? = some v) (fun i h => h.IsTupleIter N t1 i ∧ h.IsTuple t1 xs) := Draws.tuple (A := A.in1) hh N t1 (Nat.ne_of_lt h1) xs
  have D2 : Draws prog w A.in1 (N + 1) [N + 1, t2] ys.size (fun i v => ys[i]? = some v) (fun i h => h.IsTupleIter (N + 1) t2 i ∧ h.IsTuple t2 ys) := Draws.tuple (A := A.in1) hh (N + 1) t2 (Nat.ne_of_lt (Nat.lt_succ_of_lt h2)) ys
  have ne : ∀ k l : Nat, k ≠ l → (N + k : Nat) ≠ N + l := fun k l hk => ne_k N k l hk
  have e1 : ∀ {x : Value}, xs[i]? = some x → x = xs[i] := fun {x} e => by rw [Array.getElem?_eq_getElem hx] at e; exact (Option.some.inj e).symm
  have e2 : ∀ {x : Value}, ys[i]? = some x → x = ys[i] := fun {x} e => by rw [Array.getElem?_eq_getElem hy] at e; exact (Option.some.inj e).symm
  rcases hst.z with hz | ⟨T, f, oT, hz, hT, hST⟩
  · obtain ⟨a1, a2, hTO⟩ := hst.to
    refine wpAny_pyNext_zipD2_item Sp D1 D2 hz hst.ti hTO hst.s1 hst.s2 hx hy fun x1 x2 h' tk y1 y2 b1 b2 d1 d2 b5 b6 hk => ?_
    rw [e1 y1, e2 y2] at b5
    exact hQ h' tk ⟨.inr ⟨s.heap.objs.size, false, _, b1, b5, hSl⟩, hk _ _ (ne 2 4 (by omega)) (ne 2 3 (by omega)) (ne 2 0 (by omega)) (ne 2 1 (by omega)) hst.ti, ⟨_, _, b2⟩, d1, d2⟩ b5 b6 fun b o c1 c2 c3 c4 e => hk b o c1 c2 c3 c4 e
  · have nT : ∀ k : Nat, k ≤ 5 → T ≠ N + k := fun k hk e => by
      rw [hS, e] at hST
      exact ab_k N k hk hST
    refine next_held Sp D1 D2 hz hT hst.ti hst.s1 hst.s2 hx hy fun x1 x2 h' tk y1 y2 b1 d1 d2 b5 b6 hk => ?_
    rw [e1 y1, e2 y2] at b5
    obtain ⟨a1, a2, hTO⟩ := hst.to
    exact hQ h' tk ⟨.inr ⟨T, true, oT, b1, hk _ _ (nT 4 (by omega)) (nT 0 (by omega)) (nT 1 (by omega)) hT, hST⟩, hk _ _ (ne 2 4 (by omega)) (ne 2 0 (by omega)) (ne 2 1 (by omega)) hst.ti, ⟨a1, a2, hk _ _ (ne 3 4 (by omega)) (ne 3 0 (by omega)) (ne 3 1 (by omega)) hTO⟩, d1, d2⟩ b5 b6 fun b o c1 c2 c3 c4 e => hk b o c1 c3 c4 e
theorem z_done {Q : Option Value → Shared → Prop} (hh : A.handled = none) (hst : ZSt s.heap N S t1 t2 xs ys i) (h1 : t1 < N) (h2 : t2 < N) (hx : i ≤ xs.size) (hy : i ≤ ys.size) (he : i = xs.size ∨ i = ys.size)
    (hQ : ∀ h' tk, (∀ b o, b ≠ N + 4 → b ≠ N + 3 → b ≠ N → b ≠ N + 1 → s.heap.get? b = some o → h'.get? b = some o) → Q none { s with heap := h', toks := tk }) :
    wpAny (model prog w) A (pyNext (.ref (N + 4))) Q E s := by
  have Sp : ZipSep2 (N + 4) (N + 2) (N + 3) N (N + 1) [N, t1] [N + 1, t2] := zip_sep2 (fp1 := [t1]) (fp2 := [t2]) (fun b hb => by simp at hb; subst hb; exact h1) (fun b hb => by simp at hb; subst hb; exact h2)
  have D1 : Draws prog w A.in1 N [N, t1] xs.size (fun i v => xs[i]? = some v) (fun i h => h.IsTupleIter N t1 i ∧ h.IsTuple t1 xs) := Draws.tuple (A := A.in1) hh N t1 (Nat.ne_of_lt h1) xs
  have D2 : Draws prog w A.in1 (N + 1) [N + 1, t2] ys.size (fun i v => ys[i]? = some v) (fun i h => h.IsTupleIter (N + 1) t2 i ∧ h.IsTuple t2 ys) := Draws.tuple (A := A.in1) hh (N + 1) t2 (Nat.ne_of_lt (Nat.lt_succ_of_lt h2)) ys
  rcases hst.z with hz | ⟨T, f, oT, hz, hT, hST⟩
  · obtain ⟨a1, a2, hTO⟩ := hst.to
    exact wpAny_pyNext_zipD2_end Sp D1 D2 hz hst.ti hTO hst.s1 hst.s2 hx hy he fun h' tk hk => hQ h' tk hk
  · exact done_held Sp D1 D2 hz hT hst.ti hst.s1 hst.s2 hx hy he fun h' tk hk => hQ h' tk fun b o c1 c2 c3 c4 e => hk b o c1 c3 c4 e
end
/-- the pairs of two rows of values, in tuples above lo, rising -/
structure ZG (xs ys : Array Value) (lo : Addr) (h : Heap) (as : List Addr) : Prop where
  rise : as.Pairwise (· < ·)
  above : ∀ a ∈ as, lo < a
  pairs : ∀ (j : Nat) (a : Addr), as[j]? = some a → ∃ (h1 : j < xs.size) (h2 : j < ys.size), h.get? a = some { cls := .type "tuple", data := .seq #[xs[j], ys[j]] }
theorem ZG.there {xs ys : Array Value} {lo : Addr} {h : Heap} {as : List Addr} (g : ZG xs ys lo h as) {a : Addr} (ha : a ∈ as) : a < h.objs.size := by
  obtain ⟨j, hj⟩ := List.mem_iff_getElem?.mp ha
  obtain ⟨_, _, e⟩ := g.pairs j a hj
  exact Heap.lt_size e
section
variable {prog : Program} {w : World} {A : Around} {s : Shared} {R : Result → Shared → Prop} {xs ys : Array Value}
theorem z_loop {N S t1 t2 : Addr} (hh : A.handled = none) (hSN : S = N + 5) (ht1 : t1 < N) (ht2 : t2 < N) (hn : min xs.size ys.size ≤ sizeLine) (res : Value) {h₁ : Heap}
    (hR : ∀ h' tk acc c as, (∀ b o, b < N → h₁.get? b = some o → h'.get? b = some o) → h'.get? S = some { cls := .type "list", dict := none, data := .seq acc c, slots := #[] } → as.length = min xs.size ys.size → ZG xs ys S h' as →
      acc.toList = as.map Value.ref → R (.ok (.ret res)) { s with heap := h', toks := tk }) :
    ∀ (k i : Nat) (h : Heap) (tk c : Nat) (acc : Array Value) (as : List Addr), min xs.size ys.size - i = k → i ≤ min xs.size ys.size → ZSt h N S t1 t2 xs ys i → (∀ b o, b < N → h₁.get? b = some o → h.get? b = some o) →
      h.get? S = some { cls := .type "list", dict := none, data := .seq acc c, slots := #[] } → acc.toList = as.map Value.ref → as.length = i → ZG xs ys S h as →
      codeAny (model prog w) A (.builtin "list.extend.loop" ⟨[.ref S, .ref (N + 4), res], []⟩) R { s with heap := h, toks := tk } := by
  have nS : ∀ k : Nat, k < 5 → (S : Nat) ≠ N + k := fun k hk => by rw [hSN]; exact ne_k N 5 k (by omega)
  have nA : ∀ (a : Addr) (k : Nat), k ≤ 5 → S < a → a ≠ N + k := fun a k hk ha e => by
    rw [hSN, e] at ha
    exact ab_k N k hk ha
  have nB : ∀ (b : Addr) (k : Nat), b < N → b ≠ N + k := fun b k hb e => by
    rw [e] at hb
    exact lo_k N k hb
  have nBS : ∀ b : Addr, b < N → b ≠ S := fun b hb => by rw [hSN]; exact nB b 5 hb
  intro k
  induction k with
  | zero =>
    intro i h tk c acc as hk hi hst hkeep hS hacc hal hG
    refine codeAny_builtin PySem.F.entry_extend_loop ?_
    rw [Around.under_plainId PySem.F.plain_extend_loop _]
    show wpAny _ A.in1 (pyNext (.ref (N + 4)) >>= _) _ _ _
    refine wpAny_bind (z_done (s := { s with heap := h, toks := tk }) (A := A.in1) hh hst ht1 ht2 (by omega) (by omega) (by omega) fun h' tk' he => ?_)
    refine wpAny_pure (hR h' tk' acc c as (fun b o hb e => he b o (nB b 4 hb) (nB b 3 hb) (nB b 0 hb) (nB b 1 hb) (hkeep b o hb e)) (he S _ (nS 4 (by omega)) (nS 3 (by omega)) (nS 0 (by omega)) (nS 1 (by omega)) hS) (by omega) ⟨hG.rise, hG.above, fun j a hj => ?_⟩ hacc)
    obtain ⟨j1, j2, e3⟩ := hG.pairs j a hj
    have ha := hG.above a (List.mem_of_getElem? hj)
    exact ⟨j1, j2, he a _ (nA a 4 (by omega) ha) (nA a 3 (by omega) ha) (nA a 0 (by omega) ha) (nA a 1 (by omega) ha) e3⟩
  | succ k ih =>
    intro i h tk c acc as hk hi hst hkeep hS hacc hal hG
    have hx : i < xs.size := by omega
    have hy : i < ys.size := by omega
    have hsz : acc.size = i := by rw [← Array.length_toList, hacc, List.length_map, hal]
    have hSl : S < h.objs.size := Heap.lt_size hS
    refine codeAny_builtin PySem.F.entry_extend_loop ?_
    rw [Around.under_plainId PySem.F.plain_extend_loop _]
    show wpAny _ A.in1 (pyNext (.ref (N + 4)) >>= _) _ _ _
    refine wpAny_bind (z_item (s := { s with heap := h, toks := tk }) (A := A.in1) hh hst hSN ht1 ht2 hSl hx hy fun h' tk' hst' ht hz hkp => ?_)
    dsimp only at ht hz hkp ⊢
    have hS' := hkp S _ (nS 4 (by omega)) (nS 3 (by omega)) (nS 0 (by omega)) (nS 1 (by omega)) hS
    have up : ∀ b o, b ≠ S → h'.get? b = some o → (h'.update S (Obj.mapSeq (·.push (Value.ref h.objs.size)))).get? b = some o := fun b o hb e => (Heap.get?_update_other _ _ (Ne.symm hb)).trans e
    show wpAny _ A.in1 (updateSeq S (·.push (Value.ref h.objs.size)) >>= _) _ _ _
    refine wpAny_bind ?_
    refine wpAny_updateSeq hS' rfl (wpAny_pure ⟨plainId_quiet PySem.F.plain_extend_loop _, ih (i + 1) _ tk' _ (acc.push (Value.ref h.objs.size)) (as ++ [h.objs.size]) (by omega) (by omega) (hst'.keep hSN ht1 ht2 up)
      (fun b o hb e => up b o (nBS b hb) (hkp b o (nB b 4 hb) (nB b 3 hb) (nB b 0 hb) (nB b 1 hb) (hkeep b o hb e))) (Heap.get?_update_self _ hS' rfl) (by rw [Array.toList_push, hacc, List.map_append]; rfl) (by rw [List.length_append, hal]; rfl) ⟨?_, ?_, ?_⟩⟩) (by rw [hsz]; omega) (by show (acc.push (Value.ref h.objs.size)).size ≤ sizeLine + 1; rw [Array.size_push, hsz]; omega)
    · refine List.pairwise_append.mpr ⟨hG.rise, List.pairwise_singleton _ _, fun a ha b hb => ?_⟩
      rw [List.mem_singleton.mp hb]
      exact hG.there ha
    · intro a ha
      rcases List.mem_append.mp ha with ha | ha
      · exact hG.above a ha
      · rw [List.mem_singleton.mp ha]; exact hSl
    · intro j b hj
      rcases Nat.lt_trichotomy j as.length with h1 | h1 | h1
      · rw [List.getElem?_append_left h1] at hj
        obtain ⟨j1, j2, e3⟩ := hG.pairs j b hj
        have hb := hG.above b (List.mem_of_getElem? hj)
        exact ⟨j1, j2, up b _ (Nat.ne_of_gt hb) (hkp b _ (nA b 4 (by omega) hb) (nA b 3 (by omega) hb) (nA b 0 (by omega) hb) (nA b 1 (by omega) hb) e3)⟩
      · subst h1
        have hb : h.objs.size = b := by simpa using hj
        subst hb
        exact ⟨by omega, by omega, by subst hal; exact up _ _ (Nat.ne_of_gt hSl) ht⟩
      · have hnone : (as ++ [h.objs.size])[j]? = none := List.getElem?_eq_none (by rw [List.length_append, List.length_singleton]; omega)
        rw [hnone] at hj; cases hj
end
end SwZ

namespace SwZ
open PySem PySem.Spec PyProof.Rows PySem.Calls
section
variable {prog : Program} {w : World} {A : Around} {E : Value → Shared → Prop} {s : Shared} {N S t1 t2 : Addr} {xs ys : Array Value}
theorem z_extend {R : Result → Shared → Prop} (hh : A.handled = none) (hst : ZSt s.heap N S t1 t2 xs ys 0) (hz : IsZip s.heap (N + 4) (N + 2) (N + 3) .none) (hSN : S = N + 5) (ht1 : t1 < N) (ht2 : t2 < N) (res : Value) (c₀ : Nat) (hS : s.heap.get? S = some { cls := .type "list", data := .seq #[] c₀ })
    (hR : ∀ h' tk acc c as, (∀ b o, b < N → s.heap.get? b = some o → h'.get? b = some o) → h'.get? S = some { cls := .type "list", dict := none, data := .seq acc c, slots := #[] } → as.length = min xs.size ys.size → ZG xs ys S h' as →
      acc.toList = as.map Value.ref → R (.ok (.ret res)) { s with heap := h', toks := tk }) (hn : min xs.size ys.size ≤ sizeLine) :
    wpAny (model prog w) A.in1 (Builtin.List.listExtendWith (.ref S) (.ref (N + 4)) res)
      (fun fin s' => match fin with | .done f => R (.ok f) s' | .again c' => c'.quiet = true ∧ codeAny (model prog w) A c' R s') (fun e s' => R (.error e) s') s := by
  have nSz : S ≠ N + 4 := by rw [hSN]; exact ne_k N 5 4 (by omega)
  have hT : s.TypeIs (.ref (N + 4)) "zip" := ⟨_, hz, rfl⟩
  unfold Builtin.List.listExtendWith
  refine wpAny_bind (wpAny_typeOf (T := "zip") hT ?_)
  have h1 : Builtin.List.listSameRef (.ref S) (.ref (N + 4)) = false := by simp [Builtin.List.listSameRef, nSz]
  have h2 : (Value.type "zip" == Value.type "list") = false := by decide
  have h3 : (Value.type "zip" == Value.type "tuple") = false := by decide
  simp only [h1, h2, h3, Bool.or_false, Bool.false_eq_true, if_false]
  refine wpAny_bind (wpAny_pyIter_zip hz ?_)
  refine wpAny_bind (wpAny_holding ?_)
  unfold Builtin.List.listLengthHint
  refine wpAny_bind (wpAny_specialOf hT zip_no_len ?_)
  show wpAny _ A.in1 (specialOf (Value.ref (N + 4)) (Str.ofString "__length_hint__") >>= _) _ _ _
  refine wpAny_bind (wpAny_specialOf hT zip_no_hint ?_)
  refine wpAny_pure ?_
  show wpAny _ A.in1 (rule "list.extend.makes-room" >>= fun _ => Builtin.List.listTouch (.ref S) >>= fun _ => again (.builtin "list.extend.loop" ⟨[.ref S, .ref (N + 4), res], []⟩)) _ _ _
  refine wpAny_bind (wpAny_rule ?_)
  refine wpAny_bind ?_
  show wpAny _ A.in1 (updateSeq S (·.push .none) >>= fun _ => updateSeq S (·.pop)) _ _ _
  refine wpAny_bind (wpAny_updateSeq hS rfl ?_)
  have hS₂ := Heap.get?_update_self (Obj.mapSeq (·.push Value.none)) hS rfl
  refine wpAny_updateSeq (hz := by seq_fits) hS₂ rfl ?_
  have hS₃ := Heap.get?_update_self (Obj.mapSeq (·.pop)) hS₂ rfl
  have oth : ∀ b o, b ≠ S → s.heap.get? b = some o → ((s.heap.update S (Obj.mapSeq (·.push Value.none))).update S (Obj.mapSeq (·.pop))).get? b = some o :=
    fun b o hb e => (Heap.get?_update_other _ _ (Ne.symm hb)).trans ((Heap.get?_update_other _ _ (Ne.symm hb)).trans e)
  have nBS : ∀ b : Addr, b < N → b ≠ S := fun b hb e => by
    rw [e, hSN] at hb
    exact lo_k N 5 hb
  refine wpAny_pure ⟨plainId_quiet PySem.F.plain_extend_loop _, z_loop (xs := xs) (ys := ys) (s := s) (h₁ := s.heap) hh hSN ht1 ht2 hn res hR (min xs.size ys.size) 0 _ _ _ #[] [] (Nat.sub_zero _) (Nat.zero_le _) (hst.keep hSN ht1 ht2 oth) (fun b o hb e => oth b o (nBS b hb) e) hS₃ rfl rfl
    ⟨List.Pairwise.nil, (fun _ ha => nomatch ha), (fun j a hj => by simp at hj)⟩⟩
theorem z_init {R : Result → Shared → Prop} (hh : A.handled = none) (hst : ZSt s.heap N S t1 t2 xs ys 0) (hz : IsZip s.heap (N + 4) (N + 2) (N + 3) .none) (hSN : S = N + 5) (ht1 : t1 < N) (ht2 : t2 < N) (hS : s.heap.get? S = some { cls := .type "list", data := .seq #[] })
    (hR : ∀ h' tk acc c as, (∀ b o, b < N → s.heap.get? b = some o → h'.get? b = some o) → h'.get? S = some { cls := .type "list", dict := none, data := .seq acc c, slots := #[] } → as.length = min xs.size ys.size → ZG xs ys S h' as →
      acc.toList = as.map Value.ref → R (.ok (.ret .none)) { s with heap := h', toks := tk }) (hn : min xs.size ys.size ≤ sizeLine) :
    wpAny (model prog w) A.in1 (Builtin.«list.__init__» ⟨[.ref S, .ref (N + 4)], []⟩)
      (fun fin s' => match fin with | .done f => R (.ok f) s' | .again c' => c'.quiet = true ∧ codeAny (model prog w) A c' R s') (fun e s' => R (.error e) s') s := by
  show wpAny _ _ (do let old ← Builtin.List.listItems (.ref S); Builtin.List.listUpdate (.ref S) (fun _ => #[]); letGo old.toList.reverse; Builtin.List.listExtendWith (.ref S) (.ref (N + 4)) .none) _ _ s
  refine wpAny_bind ?_
  unfold Builtin.List.listItems
  refine wpAny_bind (wpAny_seqItems hS rfl (wpAny_pure ?_))
  show wpAny _ _ (updateSeq S (fun _ => #[]) >>= fun _ => letGo (#[] : Array Value).toList.reverse >>= fun _ => Builtin.List.listExtendWith (.ref S) (.ref (N + 4)) .none) _ _ s
  refine wpAny_bind (wpAny_updateSeq hS rfl ?_)
  have hS₂ := Heap.get?_update_self (Obj.mapSeq (fun _ => (#[] : Array Value))) hS rfl
  have oth : ∀ b o, b ≠ S → s.heap.get? b = some o → (s.heap.update S (Obj.mapSeq (fun _ => (#[] : Array Value)))).get? b = some o :=
    fun b o hb e => (Heap.get?_update_other _ _ (Ne.symm hb)).trans e
  have nBS : ∀ b : Addr, b < N → b ≠ S := fun b hb e => by
    rw [e, hSN] at hb
    exact lo_k N 5 hb
  refine wpAny_bind (wpAny_letGo ?_)
  refine z_extend (xs := xs) (ys := ys) hh (hst.keep hSN ht1 ht2 oth) (oth _ _ (by rw [hSN]; exact ne_k N 4 5 (by omega)) hz) hSN ht1 ht2 .none _ hS₂ (fun h' tk acc c as hk hS' hl hG hacc => ?_) hn
  exact hR h' tk acc c as (fun b o hb e => hk b o hb (oth b o (nBS b hb) e)) hS' hl hG hacc
theorem z_call {Q : Value → Shared → Prop} (hh : A.handled = none) (hN : s.heap.objs.size = N + 5) (hz : IsZip s.heap (N + 4) (N + 2) (N + 3) .none) (hti : IsTupOf2 s.heap (N + 2) (.ref N) (.ref (N + 1))) (hto : ∃ a1 a2, IsTupOf2 s.heap (N + 3) a1 a2) (s1 : s.heap.IsTupleIter N t1 0 ∧ s.heap.IsTuple t1 xs) (s2 : s.heap.IsTupleIter (N + 1) t2 0 ∧ s.heap.IsTuple t2 ys) (ht1 : t1 < N) (ht2 : t2 < N) (hn : min xs.size ys.size ≤ sizeLine)
    (hQ : ∀ h' tk acc c as, (∀ b o, b < N → s.heap.get? b = some o → h'.get? b = some o) → h'.get? (N + 5) = some { cls := .type "list", dict := none, data := .seq acc c, slots := #[] } → as.length = min xs.size ys.size → ZG xs ys (N + 5) h' as →
      acc.toList = as.map Value.ref → Q (.ref (N + 5)) { s with heap := h', toks := tk }) :
    wpAny (model prog w) A (call (.type "list") [.ref (N + 4)]) Q E s := by
  refine callType_codes (Q₁ := fun obj s₁ => obj = .ref s.heap.objs.size ∧ s₁ = { s with heap := s.heap.push { cls := .type "list", data := .seq #[] } }) PySem.F.called_list (PySem.F.typeCall_list_1 _) PySem.F.entry_list_init
    (code_list_new _ ⟨rfl, rfl⟩) fun obj s₁ h₁ => ?_
  obtain ⟨rfl, rfl⟩ := h₁
  have hS : (s.heap.push { cls := .type "list", data := .seq #[] }).get? s.heap.objs.size = some { cls := .type "list", data := .seq #[] } := Heap.get?_push_size _ rfl
  have up : ∀ b o, s.heap.get? b = some o → (s.heap.push { cls := .type "list", data := .seq #[] }).get? b = some o := fun b o e => Heap.get?_push_of_some _ e
  have st : ZSt (s.heap.push { cls := .type "list", data := .seq #[] }) N s.heap.objs.size t1 t2 xs ys 0 := ⟨.inl (up _ _ hz), up _ _ hti, (let ⟨a1, a2, q⟩ := hto; ⟨a1, a2, up _ _ q⟩), ⟨s1.1.at fun o e => up _ o e, s1.2.at fun o e => up _ o e⟩, ⟨s2.1.at fun o e => up _ o e, s2.2.at fun o e => up _ o e⟩⟩
  refine ⟨⟨_, hS, rfl⟩, PySem.F.args_list_init_2 _ _, z_init (xs := xs) (ys := ys) (A := A.in1) hh st (up _ _ hz) hN ht1 ht2 hS (fun h' tk acc c as hk hS' hl hG hacc => ?_) hn⟩
  rw [hN] at hS' hG ⊢
  exact ⟨rfl, hQ h' tk acc c as (fun b o hb e => hk b o hb (up b o e)) hS' hl hG hacc⟩
end
end SwZ
namespace SwZ
open PySem PySem.Spec PyProof.Rows L2
/-- the pairs tracked at their addresses -/
def putP : Hp → List Addr → List (V × V) → Hp
  | H, a :: as, p :: kvs => putP (upd H a (.tup [p.1, p.2])) as kvs
  | H, _, _ => H
theorem putP_off {b : Addr} : ∀ (as : List Addr) (kvs : List (V × V)) (H : Hp), b ∉ as → putP H as kvs b = H b
  | [], _, _, _ => rfl
  | _ :: _, [], _, _ => rfl
  | a :: as, p :: kvs, H, h => by
    show putP (upd H a (.tup [p.1, p.2])) as kvs b = H b
    rw [putP_off as kvs _ (fun z => h (List.mem_cons_of_mem _ z)), upd_ne (fun z => h (by rw [z]; exact List.mem_cons_self))]
theorem putP_at : ∀ (as : List Addr) (kvs : List (V × V)) (H : Hp), as.length = kvs.length → as.Nodup → Paired (fun (t : Addr) (p : V × V) => putP H as kvs t = some (.tup [p.1, p.2])) as kvs
  | [], [], _, _, _ => .nil
  | [], _ :: _, _, h, _ => by cases h
  | _ :: _, [], _, h, _ => by cases h
  | a :: as, p :: kvs, H, h, hn => by
    have hn' := List.nodup_cons.mp hn
    have ih := putP_at as kvs (upd H a (.tup [p.1, p.2])) (Nat.succ.inj h) hn'.2
    refine .cons ?_ ih
    show putP (upd H a (.tup [p.1, p.2])) as kvs a = some (.tup [p.1, p.2])
    rw [putP_off as kvs _ hn'.1, upd_same]
section
variable {X : Cx}
theorem pairs_laid {pins : List (Addr × Obj)} {σ : L2.St} {H : Hp} {s : Shared} {h' : Heap} {tk : Nat} {kvs : List (V × V)} {acc : Array Value} {c : Nat} {as : List Addr} {S : Addr} (I : Inv X pins σ H s) (hz : kvs.length ≤ sizeLine) (hSl : s.heap.objs.size ≤ S)
    (hk : ∀ b o, s.heap.get? b = some o → h'.get? b = some o) (hS : h'.get? S = some { cls := .type "list", dict := none, data := .seq acc c, slots := #[] }) (hl : as.length = kvs.length) (rise : as.Pairwise (· < ·)) (above : ∀ a ∈ as, S < a)
    (pairs : ∀ (j : Nat) (a : Addr) (q : V × V), as[j]? = some a → kvs[j]? = some q → ∃ u v, RelV q.1 u ∧ RelV q.2 v ∧ h'.get? a = some { cls := .type "tuple", data := .seq #[u, v] }) (hacc : acc.toList = as.map Value.ref) :
    ∃ H' : Hp, (∀ b o, H b = some o → H' b = some o) ∧ H S = none ∧ (∀ t ∈ as, H t = none) ∧ S ∉ as ∧ H' S = some (.lst (as.map V.ref)) ∧ Paired (fun (t : Addr) (q : V × V) => H' t = some (.tup [q.1, q.2])) as kvs ∧ Inv X pins σ H' { s with heap := h', toks := tk } := by
  have hSn : S ∉ as := fun z => Nat.lt_irrefl _ (above _ z)
  have nd : as.Nodup := List.Pairwise.imp (fun {a b} (h : a < b) => Nat.ne_of_lt h) rise
  have new : ∀ t ∈ as, H t = none := fun t ht => I.hok.fresh (Nat.le_trans hSl (Nat.le_of_lt (above t ht)))
  have newS : H S = none := I.hok.fresh hSl
  have atP := putP_at as kvs (upd H S (.lst (as.map V.ref))) hl nd
  have off : ∀ b, b ∉ as → b ≠ S → putP (upd H S (.lst (as.map V.ref))) as kvs b = H b := fun b h1 h2 => by rw [putP_off as kvs _ h1, upd_ne h2]
  have low : ∀ b o, s.heap.get? b = some o → b ∉ as ∧ b ≠ S := fun b o e => ⟨fun z => absurd (Heap.lt_size e) (Nat.not_lt.mpr (Nat.le_trans hSl (Nat.le_of_lt (above b z)))), Nat.ne_of_lt (Nat.lt_of_lt_of_le (Heap.lt_size e) hSl)⟩
  have kp : ∀ b u, H b = some u → (putP (upd H S (.lst (as.map V.ref))) as kvs) b = some u := fun b u e => by
    rw [off b (fun z => by rw [new b z] at e; cases e) (fun z => by rw [z, newS] at e; cases e)]
    exact e
  have eS : putP (upd H S (.lst (as.map V.ref))) as kvs S = some (.lst (as.map V.ref)) := by rw [putP_off as kvs _ hSn, upd_same]
  refine ⟨putP (upd H S (.lst (as.map V.ref))) as kvs, kp, newS, new, hSn, eS, atP, ?_⟩
  refine I.call' (ch := []) rfl ⟨fun b o q _ _ _ => hk b o q, fun b o q _ _ _ => ⟨o.slots, hk b o q⟩, fun b o q n _ => ?_, fun b o q _ => ⟨o, hk b o q⟩, fun b xs q => kp b _ q, fun b o u q => kp b _ q, fun b ps q => ⟨#[], by rw [kp b _ q]; simp⟩⟩ (fun b u q => ?_) I.bare fun b z => by simp at z
  · obtain ⟨z1, z2⟩ := low b o q
    rw [off b z1 z2]
    exact n
  · by_cases hb : b ∈ as
    · obtain ⟨j, pk, e1, e2, e3⟩ := LiI.paired_ix atP hb
      rw [e3] at q
      cases q
      obtain ⟨u', v', r1, r2, f3⟩ := pairs j b pk e1 e2
      exact ⟨by show 2 ≤ sizeLine; decide, [u', v'], .cons r1 (.cons r2 .nil), ⟨_, f3, rfl, _, rfl⟩⟩
    · by_cases hb2 : b = S
      · rw [hb2] at q ⊢
        rw [eS] at q
        cases q
        refine ⟨by rw [List.length_map, hl]; exact hz, acc.toList, c, by rw [hacc]; exact LiI.vals_refs as, ?_⟩
        rw [Array.toArray_toList]
        exact hS
      · rw [off b hb hb2] at q
        exact (I.hok b u q).stay (fun d v _ y => hk d v y) (fun d y => kp d _ y) fun d xs y => kp d _ y
def tListZip (K : PySem.W.Frag) (ta : TA) : TE := fun σ H Q => ta σ H fun vs H1 => ∃ (a b : Addr) (xs ys : List V), vs = [.ref a, .ref b] ∧ SqT K H1 a xs ∧ SqT K H1 b ys ∧ (xs.zip ys).length ≤ 1000 ∧
  ∀ (H' : Hp) (p : Addr) (ts : List Addr), (∀ b o, H1 b = some o → H' b = some o) → H1 p = none → (∀ t ∈ ts, H1 t = none) → p ∉ ts → H' p = some (.lst (ts.map V.ref)) → Paired (fun (t : Addr) (q : V × V) => H' t = some (.tup [q.1, q.2])) ts (xs.zip ys) → Q (.ref p) H'
theorem pe_listZip {e e2 : Expr} {ta : TA} {p p2 pos pos2 : Pos} (hc : X.calm = true) (hg : Gl X "list") (hm : X.mg "list" = none) (hg2 : Gl X "zip") (hm2 : X.mg "zip" = none) (ha : PA X [e, e2] ta)
    (hs : starEach [e, e2] X.env = (false, eval e X.env) :: starEach [e2] X.env := by rfl) (hpl : (backTo pos2 (starEach [e2] X.env)).any (·.1) = false := by rfl)
    (hs2 : starEach [.Call (.Name "zip" p2) [e, e2] [] pos2] X.env = (false, eval (.Call (.Name "zip" p2) [e, e2] [] pos2) X.env) :: starEach [] X.env := by rfl) :
    PE X (.Call (.Name "list" p) [.Call (.Name "zip" p2) [e, e2] [] pos2] [] pos) (tListZip X.K ta) := by
  refine ⟨fun pins s σ H Q I h => ?_⟩
  refine Call_ (ld_blt I hg hm (show bootBuiltins "list" = some (.type "list") by decide +kernel) (PyProof.Rows.callWith_type1 (args_cons (Call_ (ld_blt I hg2 hm2 PyProof.Rows.boot_zip (PyProof.Rows.callWith_type1 (thn (ha.run pos2 pins s σ H _ I h) fun us s1 ⟨vs, H1, I1, r1, q1⟩ => ?_) hs hpl))) hs2) hs2 rfl))
  obtain ⟨a, b, xs, ys, ex, hqa, hqb, hl, q⟩ := q1
  subst ex
  cases r1 with
  | cons r rr =>
    cases rr with
    | cons r' rr =>
      cases rr
      cases r
      cases r'
      obtain ⟨ia, va, pa, za⟩ := I1.tuple hqa
      obtain ⟨ib, vb, pb, zb⟩ := I1.tuple hqb
      obtain ⟨oa, hoa, _⟩ := id pa
      obtain ⟨ob, hob, _⟩ := id pb
      have lz : min ia.toArray.size ib.toArray.size = (xs.zip ys).length := by rw [List.length_zip, List.size_toArray, List.size_toArray, va.length, vb.length]
      refine RZ.call_zipT (show s1.heap.IsTuple a ia.toArray from pa) (show s1.heap.IsTuple b ib.toArray from pb) fun h' hz hTI hTO h1 h2 hsz hk => args_nil ?_
      refine z_call (s := { s1 with heap := h' }) (N := s1.heap.objs.size) (t1 := a) (t2 := b) (xs := ia.toArray) (ys := ib.toArray) (I1.ok.hd hc) hsz hz hTI ⟨_, _, hTO⟩ ⟨h1, (show s1.heap.IsTuple a ia.toArray from pa).at fun o e => hk _ o e⟩ ⟨h2, (show s1.heap.IsTuple b ib.toArray from pb).at fun o e => hk _ o e⟩ (Heap.lt_size hoa) (Heap.lt_size hob) (by rw [lz, sizeLine_eq]; omega) fun h2' tk acc c as hk2 hS hl2 hG hacc => ?_
      have kk : ∀ b o, s1.heap.get? b = some o → h2'.get? b = some o := fun b o e => hk2 b o (Heap.lt_size e) (hk b o e)
      have prs : ∀ (j : Nat) (x : Addr) (q : V × V), as[j]? = some x → (xs.zip ys)[j]? = some q → ∃ u v, RelV q.1 u ∧ RelV q.2 v ∧ h2'.get? x = some { cls := .type "tuple", data := .seq #[u, v] } := fun j x q e1 e2 => by
        obtain ⟨j1, j2, e3⟩ := hG.pairs j x e1
        rw [List.getElem?_zip_eq_some] at e2
        obtain ⟨u, hu, ru⟩ := va.get e2.1
        obtain ⟨v, hv, rv⟩ := vb.get e2.2
        refine ⟨u, v, ru, rv, ?_⟩
        have eu : ia.toArray[j] = u := by
          have : ia.toArray[j]? = some u := by rw [List.getElem?_toArray]; exact hu
          rw [Array.getElem?_eq_getElem j1] at this
          exact Option.some.inj this
        have ev : ib.toArray[j] = v := by
          have : ib.toArray[j]? = some v := by rw [List.getElem?_toArray]; exact hv
          rw [Array.getElem?_eq_getElem j2] at this
          exact Option.some.inj this
        rw [← eu, ← ev]
        exact e3
      obtain ⟨H', k1, k2, k3, k4, k5, k6, J⟩ := pairs_laid (tk := tk) (kvs := xs.zip ys) I1 (by rw [sizeLine_eq]; omega) (Nat.le_add_right _ 5) kk hS (by rw [hl2, lz]) hG.rise hG.above prs hacc
      exact ⟨.ref _, H', J, rfl, q H' _ as k1 k2 k3 k4 k5 k6⟩
end
end SwZ

set_option maxHeartbeats 4000000
/-! set(xs) of a list or tuple of ints, its length; sorted(t) of a tuple of ints -/
namespace SwS
open PySem PySem.Spec PyProof.Rows L2
abbrev newSet (w : World) : Obj := { cls := .type "set", dict := none, data := .set #[] 0 (.fresh 0 0 (!w.params.followText "set-order")) }
section
variable {P : Program} {w : World} {A : Around} {E : Value → Shared → Prop} {s : Shared}
theorem setR_of {ns : List Int} {h : Heap} {a : Addr} {c : Nat} (hc : SetR w h a (fun j => decide (j ∈ ns)) c) (hn : ns.Nodup) : c = ns.length := by
  obtain ⟨o, es, ep, t, ho, hex, hdt, g, nd, hm, hb, hf, hz, hr, hl⟩ := hc
  have hp : (es.toList.map keyOf).Perm ns := (List.perm_ext_iff_of_nodup nd hn).mpr fun k => by
    rw [← hm k, decide_eq_true_eq]
  have := hp.length_eq
  rw [List.length_map, Array.length_toList, hz] at this
  exact this
set_option maxHeartbeats 6400000 in
/-- set(xs) of a list of ints -/
theorem call_setL {l : Addr} {items : Array Value} (ns : List Int) {Q : Value → Shared → Prop} (hh : A.handled = none) (hl : s.heap.IsList l items) (hit : IntsAre items.toList ns) (hb : ns.length + 1 < scanBound)
    (h : ∀ (h' : Heap) (tk c : Nat), SetR w h' s.heap.objs.size (fun j => decide (j ∈ ns)) c → c ≤ ns.length → (∀ b o, s.heap.get? b = some o → h'.get? b = some o) → Q (.ref s.heap.objs.size) { s with heap := h', toks := tk }) :
    wpAny (model P w) A (call (.type "set") [.ref l]) Q E s := by
  have hisz : items.size = ns.length := (Array.length_toList ..).symm.trans (IntsAre.length hit)
  obtain ⟨cM, tlM, hmro⟩ := F.called_set.mro
  have hmade := F.called_set.made
  have hsub := F.called_set.sub
  refine wpAny_call (codeAny_of_tree ?_)
  show wpAny _ _ (callAny (.type "set") _) _ _ _
  refine wpAny_pure ⟨Code.quiet_builtin _ (by decide +kernel), codeAny_builtin F.entry_type_call ?_⟩
  rw [Around.under_plain (weight_type_call_type "set" [.ref l] []) rfl]
  have f1 := F.called_set.notType
  have f2 := F.called_set.canCreate
  have f3 := F.typeCall_set_1 (.ref l)
  repeat (any_goals (first | assumption | wp_step))
  refine codeAny_mono (code_set_led1 (.ref l) (E := E) (Q₁ := fun obj s₁ => obj = .ref s.heap.objs.size ∧ s₁ = { s with heap := s.heap.push (newSet w) }) ⟨rfl, rfl⟩) fun r s₁ hr => ?_
  cases r with
  | error e => exact hr
  | ok fl =>
    cases fl with
    | next => exact hr.elim
    | brk => exact hr.elim
    | cont => exact hr.elim
    | ret obj =>
      obtain ⟨rfl, rfl⟩ := hr
      have gS : (s.heap.push (newSet w)).get? s.heap.objs.size = some (newSet w) := Heap.get?_push_size _ rfl
      have tS : Shared.TypeIs { s with heap := s.heap.push (newSet w) } (.ref s.heap.objs.size) "set" := ⟨_, gS, rfl⟩
      have f4 := F.called_set.init.lookup
      have f5 := F.called_set.init.bind (.ref s.heap.objs.size)
      repeat (any_goals (first | assumption | wp_step))
      refine codeAny_mono (codeAny_call_builtin (R := wants (fun r s₂ => r = .none ∧ ∃ h' tk c, s₂ = { s with heap := h', toks := tk } ∧ SetR w h' s.heap.objs.size (fun j => decide (j ∈ ns)) c ∧ c ≤ ns.length ∧ (∀ b o, s.heap.get? b = some o → h'.get? b = some o)) E) F.called_set.init.plain F.entry_set_init (check_set_init_1 tS ?_)) fun r₂ s₂ hr₂ => ?_
      · obtain ⟨⟨ocls, odict, odata, oslots⟩, hol, hcl, nl, hdl⟩ := hl
        simp only at hcl hdl
        subst hcl; subst hdl
        have gl : (s.heap.push (newSet w)).get? l = some { cls := .type "list", dict := odict, data := .seq items nl, slots := oslots } := Heap.get?_push_of_some _ hol
        have f6 := F.sub_list_set
        have f7 := F.sub_list_frozenset
        have f8 : (Value.type "list" == Value.type "dict") = false := by decide
        have il : (s.heap.push (newSet w)).IsList l items := ⟨_, gl, rfl, nl, rfl⟩
        unfold Builtin.«set.__init__» noKeywords Builtin.Frozenset.updateFrom
        generalize hPI : pyIter = PI
        wp_walk
        subst hPI
        refine wpAny_pyIter_list il ?_
        refine wpAny_bind (wpAny_runValue ?_)
        have hlS : l < s.heap.objs.size := Heap.lt_size hol
        have hh3 : A.in1.in1.in1.handled = none := by simp [hh]
        have hneI : l ≠ (s.heap.push (newSet w)).objs.size := by rw [Heap.size_push]; exact Nat.ne_of_lt (Nat.lt_succ_of_lt hlS)
        have hSf : s.heap.objs.size ∉ [(s.heap.push (newSet w)).objs.size, l] := by
          rw [Heap.size_push]
          simp only [List.mem_cons, List.not_mem_nil, or_false, not_or]
          exact ⟨Nat.ne_of_lt (Nat.lt_succ_self _), Nat.ne_of_gt hlS⟩
        have hval : ∀ (i : Nat) (v : Value), items[i]? = some v → ∃ k t, ns[i]? = some k ∧ v = .int k t := fun i v hv => by
          have hi : i < ns.length := by rw [← hisz]; exact (Array.getElem?_eq_some_iff.mp hv).1
          obtain ⟨t, e⟩ := PyProof.Rows.IntsAre.int_at hit i v (by rw [Array.getElem?_toList]; exact hv)
          refine ⟨ns[i], t, List.getElem?_eq_getElem hi, ?_⟩
          rw [e, List.getD_eq_getElem?_getD, List.getElem?_eq_getElem hi] <;> rfl
        refine set_update_ints ((Walks.list hh3 _ l hneI items).toS) s.heap.objs.size hSf ns hisz hb hval (items.size - 0) 0 _ (by omega) (Nat.zero_le _) ⟨⟨_, Heap.get?_push_size _ rfl, rfl, rfl⟩, (il.push _)⟩ ⟨0, Nat.le_refl 0, setR_new_at (Heap.get?_push_of_some _ gS)⟩ ?_
        intro s' c' hm hc' hS'
        obtain ⟨h', g2, d', tk', os'⟩ := s'
        have eg : g2 = s.gens := hm.gens
        have ed : d' = s.drawn := hm.drawn
        have eo : os' = s.os := hm.os
        subst eg; subst ed; subst eo
        show wpAny _ _ _ _ _ _
        refine wpAny_pure ?_
        show wpAny _ _ (ret Value.none) _ _ _
        rw [hisz] at hc'
        refine wpAny_pure ⟨rfl, h', tk', c', rfl, hS', hc', fun b o e => ?_⟩
        have hb0 : b < s.heap.objs.size := Heap.lt_size e
        have n2 : b ≠ (s.heap.push (newSet w)).objs.size := by rw [Heap.size_push]; exact Nat.ne_of_lt (Nat.lt_succ_of_lt hb0)
        exact hm.heap b o (by simp only [List.mem_cons, List.not_mem_nil, or_false, not_or]; exact ⟨Nat.ne_of_lt hb0, n2⟩) (Heap.get?_push_of_some _ (Heap.get?_push_of_some _ e))
      · cases r₂ with
        | error e => exact hr₂
        | ok fl₂ =>
          cases fl₂ with
          | next => exact hr₂.elim
          | brk => exact hr₂.elim
          | cont => exact hr₂.elim
          | ret r =>
            obtain ⟨rfl, h', tk, c', rfl, hS', hc', hk'⟩ := hr₂
            repeat (any_goals (first | assumption | wp_step))
            exact h _ _ _ hS' hc' hk'
end
section
variable {X : Cx}
/-- set(xs), xs a list or a tuple of ints -/
def rSetI (K : PySem.W.Frag) (w : World) : List V → Hp → VK → Prop := fun vs H Q => ∃ (l : Addr) (ns : List Int), vs = [.ref l] ∧ (SqL K H l (ns.map V.int) ∨ SqT K H l (ns.map V.int)) ∧ ns.length ≤ 1000 ∧
  ∀ (a : Addr) (c : Nat), H a = none → c ≤ ns.length → (ns.Nodup → c = ns.length) → Q (.ref a) (upd H a (SetO w a (fun j => decide (j ∈ ns)) c))
theorem cr_setI (hc : X.calm = true) : CallR X (.type "set") (rSetI X.K X.w) := by
  intro pins s σ H vs us Q I r h
  obtain ⟨l, ns, rfl, hq, hz, q⟩ := h
  obtain ⟨u, rfl, rx⟩ := vals1 r
  obtain rfl : u = Value.ref l := rx
  have fin : ∀ (h' : Heap) (tk c : Nat), SetR X.w h' s.heap.objs.size (fun j => decide (j ∈ ns)) c → c ≤ ns.length → (∀ b o, s.heap.get? b = some o → h'.get? b = some o) → EP X pins σ Q (.ref s.heap.objs.size) { s with heap := h', toks := tk } := fun h' tk c R hcn k =>
    ⟨.ref s.heap.objs.size, _, I.laid (t' := tk) k (Nat.le_refl _) (setO_new R), rfl, q _ c (I.hok.fresh (Nat.le_refl _)) hcn (setR_of R)⟩
  rcases hq with hq | hq
  · obtain ⟨its, rv, pl, _⟩ := I.list hq
    exact call_setL ns (I.ok.hd hc) pl.isList (by simpa using RZ.intsAre_vals rv) (by unfold scanBound; omega) fin
  · obtain ⟨its, rv, pt, _⟩ := I.tuple hq
    exact call_set_tupI ns (I.ok.hd hc) (show s.heap.IsTuple l its.toArray from pt) (by simpa using RZ.intsAre_vals rv) (by unfold scanBound; omega) fin
/-- len(s) of such a set -/
def rLenSet (w : World) : List V → Hp → VK → Prop := fun vs H Q => ∃ (a : Addr) (S : Int → Bool) (c : Nat), vs = [.ref a] ∧ H a = some (SetO w a S c) ∧ c ≤ 1000 ∧ Q (.int (c : Nat)) H
theorem cr_lenSet : CallR X (.builtin "len") (rLenSet X.w) := by
  intro pins s σ H vs us Q I r h
  obtain ⟨a, S, c, rfl, ha, hz, q⟩ := h
  obtain ⟨u, rfl, rx⟩ := vals1 r
  obtain rfl : u = Value.ref a := rx
  obtain ⟨o, es, ep, t, ho, hex, hd, g, nd, hm, hb, hf, hn, hr, hl⟩ := setO_get I ha
  exact call_len_set ho hex hd hf (by rw [hn]; omega) ⟨.int c, H, I.tok _, ⟨_, by rw [hn]⟩, q⟩
/-- sorted(t), t a tuple of ints -/
def rSortedTI (K : PySem.W.Frag) : List V → Hp → VK → Prop := fun vs H Q => ∃ (a : Addr) (ns : List Int), vs = [.ref a] ∧ SqT K H a (ns.map V.int) ∧ ns.length ≤ 1000 ∧
  ∀ (ys : List Int) (p : Addr), ys.Perm ns → ys.Pairwise (· ≤ ·) → H p = none → Q (.ref p) (upd H p (.lst (ys.map V.int)))
theorem cr_sortedTI : CallR X (.builtin "sorted") (rSortedTI X.K) := by
  intro pins s σ H vs us Q I r h
  obtain ⟨a, ns, rfl, hq, h64, q⟩ := h
  obtain ⟨u, rfl, rx⟩ := vals1 r
  obtain rfl : u = Value.ref a := rx
  obtain ⟨its, rv, pt, _⟩ := I.tuple hq
  obtain ⟨o, ho, hcl, n, hd⟩ := id pt
  have hS : IntsAre its.toArray.toList ns := by simpa using RZ.intsAre_vals rv
  have hlen : its.toArray.size = ns.length := by rw [List.size_toArray, ← rv.length, List.length_map]
  have hsz : its.toArray.toList.length ≤ sizeLine := by rw [Array.length_toList, hlen, sizeLine_eq]; omega
  refine Calls.call_function_entry PyProof.Rows.kind_sorted PyProof.Rows.plain_sorted PyProof.Rows.entry_sorted (PyProof.Rows.args_sorted1 _) ?_
  unfold Builtin.«sorted»
  refine wpAny_bind (m := checkCount "sorted" 1 1 _) (wpAny_pure ?_)
  refine wpAny_bind (wpAny_collect_seq a (.inr rfl) ho hcl hd (fun h' hk => ?_) (by rw [hlen, sizeLine_eq]; omega))
  have I1 : Inv X pins σ H { s with heap := h' } := I.kept (t' := s.toks) hk
  refine wpAny_bind (wpAny_newList ?_ hsz)
  have oL : (h'.push (seqObj "list" its.toArray.toList.toArray 0)).get? h'.objs.size = some (seqObj "list" its.toArray.toList.toArray 0) := Heap.get?_push_size _ rfl
  show wpAny _ _ _ _ _ { s with heap := h'.push (seqObj "list" its.toArray.toList.toArray 0) }
  refine wpAny_bind (wpAny_holding (wpAny_call_entry PyProof.Rows.slot_list_sort ⟨_, oL, rfl⟩ PyProof.Rows.entry_list_sort
    (SrtO.list_sort_ord (s := { s with heap := h'.push (seqObj "list" its.toArray.toList.toArray 0) }) SrtO.swo_int oL hsz (fun h2 => SrtO.ints_sortable hS h2) fun out g1 g2 => ⟨_, rfl, ?_⟩) (PyProof.Rows.args_list_sort _)))
  obtain ⟨k1, k2, k3⟩ := SrtO.ints_out hS g1 g2
  obtain ⟨e', he'⟩ := PyProof.Rows.sortedHeap_at (vs := its.toArray.toList) (out := out.toArray) oL
  have lo : ((out.map SrtO.iv).map V.int).length ≤ sizeLine := by rw [List.length_map, k2.length_eq, sizeLine_eq]; omega
  refine wpAny_pure ⟨_, rfl, .ref h'.objs.size, upd H h'.objs.size (.lst ((out.map SrtO.iv).map V.int)), I1.laid (t' := s.toks) (fun b u e => ?_) (Nat.le_refl _)
    (show ObjOk X.prog X.w _ _ _ (.lst ((out.map SrtO.iv).map V.int)) from ⟨lo, out, e', vals_of_ints k1, he'⟩), rfl, q _ _ k2 k3 (I1.hok.fresh (Nat.le_refl _))⟩
  have hb : b < h'.objs.size := Heap.lt_size e
  rw [PyProof.Rows.sortedHeap_old (Nat.ne_of_lt hb) (by rw [size_push']; exact Nat.lt_succ_of_lt hb)]
  exact Heap.get?_push_of_some _ e
end
end SwS

/-! a statement and the rest, with what holds between them named once -/
namespace L2
open PySem PySem.Spec PyProof.Rows
section
variable {X : Cx} {st : Stmt} {rest : List Stmt} {t u : TS}
def tMid (t u : TS) : TS := fun D σ H => ∃ Pre : St → Hp → Prop, t { D with nx := Pre } σ H ∧ ∀ σ' H', Pre σ' H' → u D σ' H'
theorem pss_mid (h1 : PS X st t) (h2 : PSs X rest u) : PSs X (st :: rest) (tMid t u) := by
  refine ⟨fun pins s σ H D I ⟨Pre, h, hu⟩ => ?_⟩
  refine wpAny_execs_cons (thn (h1.run pins s σ H { D with nx := Pre } I h) fun f s1 q => ?_)
  cases f with
  | next =>
    obtain ⟨σ', H', I', q⟩ := q
    exact h2.run pins s1 σ' H' D I' (hu _ _ q)
  | ret v => exact q
  | brk => exact q
  | cont => exact q
end
end L2
namespace K
open PySem PySem.Spec PyProof.Rows L2
theorem ints_ne_refs {us : List Int} {a : Addr} {r : List V} : HO.lst (us.map V.int) ≠ HO.lst (.ref a :: r) := fun z => by
  cases us with
  | nil => cases z
  | cons n us => injection z with z; injection z with z1 z2; cases z1
theorem new_at {H H' : Hp} {p : Addr} {o : HO} (n : H p = none) (e : upd H p o = H') : Same H H' ∧ H' p = some o := by
  subst e
  exact ⟨same_upd n, upd_same⟩
/-- one of the two ranges of the law -/
structure Side where
  x : Addr
  dx : Addr
  d : Addr
  u : Addr
  t : Addr
  lo : Int
  hi : Int
  us : List Int
structure SideAt (H : Hp) (C : Addr) (S : Side) : Prop where
  num : NumAt H C S.x S.dx S.d S.lo S.hi S.us
  u : H S.u = some (.lst (S.us.map V.int))
  t : H S.t = some (.tup [.int S.lo, .int S.hi])
structure SideOk (S : Side) : Prop where
  good : goodR S.lo S.hi
  nd : S.us.Nodup
  mem : ∀ i ∈ S.us, S.lo ≤ i ∧ i ≤ S.hi
structure Both (H : Hp) (C p q en bo ud : Addr) (S : Nat → Side) (i : Nat) : Prop where
  box : BoxAt H p q
  en : H en = some (.lst [.ref (S 0).t, .ref (S 1).t])
  bo : H bo = some (.lst [.ref (S 0).x, .ref (S 1).x])
  ud : H ud = some (.lst [.ref (S 0).u, .ref (S 1).u])
  side : ∀ k, k < 2 → SideAt H C (S k)
  ok : ∀ k, k < 2 → SideOk (S k)
  len : ∀ k, k < 2 → (S k).us.length ≤ i
  uq : ∀ k, k < 2 → (S k).u ≠ q
  uu : ∀ k j, k < 2 → j < 2 → k ≠ j → (S k).u ≠ (S j).u
  dd : ∀ k j, k < 2 → j < 2 → k ≠ j → (S k).d ≠ (S j).d
theorem SideAt.same {H H' : Hp} {C : Addr} {S : Side} (h : SideAt H C S) (s : Same H H') : SideAt H' C S := ⟨h.num.same s, s _ _ h.u, s _ _ h.t⟩
theorem Both.same {H H' : Hp} {C p q en bo ud : Addr} {S : Nat → Side} {i : Nat} (h : Both H C p q en bo ud S i) (s : Same H H') : Both H' C p q en bo ud S i :=
  ⟨h.box.same s, s _ _ h.en, s _ _ h.bo, s _ _ h.ud, fun k hk => (h.side k hk).same s, h.ok, h.len, h.uq, h.uu, h.dd⟩
/-- the box alone is written -/
theorem Both.but {H H' : Hp} {C p q en bo ud : Addr} {S : Nat → Side} {i : Nat} (h : Both H C p q en bo ud S i) (B : BoxAt H' p q) (b : But p H H') : Both H' C p q en bo ud S i := by
  obtain ⟨ns, i0, t0, s0, hp, hq, _⟩ := h.box
  refine ⟨B, b _ _ h.en (ne_of h.en hp fun z => by cases z), b _ _ h.bo (ne_of h.bo hp fun z => by cases z), b _ _ h.ud (ne_of h.ud hp fun z => by cases z), fun k hk => ?_, h.ok, h.len, h.uq, h.uu, h.dd⟩
  have hs := h.side k hk
  exact ⟨⟨b _ _ hs.num.1 (ne_of hs.num.1 hp fun z => by cases z), b _ _ hs.num.2 (ne_of hs.num.2 hp fun z => by cases z)⟩, b _ _ hs.u (ne_of hs.u hp ints_ne_refs), b _ _ hs.t (ne_of hs.t hp fun z => by cases z)⟩
def putS (S : Nat → Side) (k : Nat) (s : Side) : Nat → Side := fun j => if j = k then s else S j
theorem putS_same {S : Nat → Side} {k : Nat} {s : Side} : putS S k s k = s := if_pos rfl
theorem putS_ne {S : Nat → Side} {k j : Nat} {s : Side} (h : j ≠ k) : putS S k s j = S j := if_neg h
/-- the side k is changed: its list (maybe another one) and its dict -/
theorem Both.put {H H' : Hp} {C p q en bo ud u' : Addr} {S : Nat → Side} {i i' k : Nat} {us' : List Int} (h : Both H C p q en bo ud S i) (hk : k < 2) (hi : i ≤ i')
    (st : ∀ b o, H b = some o → b ≠ ud → b ≠ (S k).u → b ≠ (S k).d → H' b = some o)
    (h1 : H' ud = some (.lst [.ref (putS S k { S k with u := u', us := us' } 0).u, .ref (putS S k { S k with u := u', us := us' } 1).u])) (h2 : H' u' = some (.lst (us'.map V.int))) (h3 : H' (S k).d = some (.dK (heldK us')))
    (ok : SideOk { S k with u := u', us := us' }) (hl : us'.length ≤ i') (n1 : u' ≠ q) (n2 : ∀ j, j < 2 → j ≠ k → u' ≠ (S j).u) : Both H' C p q en bo ud (putS S k { S k with u := u', us := us' }) i' := by
  obtain ⟨ns, i0, t0, s0, hp, hq, _⟩ := id h.box
  have hsk := h.side k hk
  have kt : ∀ j, (putS S k { S k with u := u', us := us' } j).t = (S j).t := fun j => by
    by_cases e : j = k
    · subst e; rw [putS_same]
    · rw [putS_ne e]
  have kx : ∀ j, (putS S k { S k with u := u', us := us' } j).x = (S j).x := fun j => by
    by_cases e : j = k
    · subst e; rw [putS_same]
    · rw [putS_ne e]
  have kd : ∀ j, (putS S k { S k with u := u', us := us' } j).d = (S j).d := fun j => by
    by_cases e : j = k
    · subst e; rw [putS_same]
    · rw [putS_ne e]
  have nud : (S k).u ≠ ud := ne_of hsk.u h.ud ints_ne_refs
  refine ⟨h.box.at (fun o e => st _ o e (ne_of hp h.ud fun z => by cases z) (ne_of hp hsk.u (Ne.symm ints_ne_refs)) (ne_of hp hsk.num.2 fun z => by cases z)) (fun o e => st _ o e (ne_of hq h.ud ints_ne_refs) (Ne.symm (h.uq k hk)) (ne_of hq hsk.num.2 fun z => by cases z)), ?_, ?_, h1, fun j hj => ?_, fun j hj => ?_, fun j hj => ?_, fun j hj => ?_, fun j l hj hl' hjl => ?_, fun j l hj hl' hjl => ?_⟩
  · rw [kt, kt]
    refine st _ _ h.en (fun e => ?_) (ne_of h.en hsk.u (Ne.symm ints_ne_refs)) (ne_of h.en hsk.num.2 fun z => by cases z)
    have h0 := h.en
    rw [e, h.ud] at h0
    injection h0 with h0
    injection h0 with h0
    injection h0 with e1 e2
    injection e1 with e1
    have a1 := (h.side 0 (by omega)).t
    have a2 := (h.side 0 (by omega)).u
    rw [← e1, a2] at a1
    cases a1
  · rw [kx, kx]
    refine st _ _ h.bo (fun e => ?_) (ne_of h.bo hsk.u (Ne.symm ints_ne_refs)) (ne_of h.bo hsk.num.2 fun z => by cases z)
    have h0 := h.bo
    rw [e, h.ud] at h0
    injection h0 with h0
    injection h0 with h0
    injection h0 with e1 e2
    injection e1 with e1
    have a1 := (h.side 0 (by omega)).num.1
    have a2 := (h.side 0 (by omega)).u
    rw [← e1, a2] at a1
    cases a1
  · have hs := h.side j hj
    have f1 : H' (S j).x = some (.ins C (S j).dx (numF (S j).lo (S j).hi (S j).d)) := st _ _ hs.num.1 (ne_of hs.num.1 h.ud fun z => by cases z) (ne_of hs.num.1 hsk.u fun z => by cases z) (ne_of hs.num.1 hsk.num.2 fun z => by cases z)
    have f2 : H' (S j).t = some (.tup [.int (S j).lo, .int (S j).hi]) := st _ _ hs.t (ne_of hs.t h.ud fun z => by cases z) (ne_of hs.t hsk.u fun z => by cases z) (ne_of hs.t hsk.num.2 fun z => by cases z)
    by_cases e : j = k
    · subst e
      rw [putS_same]
      exact ⟨⟨f1, h3⟩, h2, f2⟩
    · rw [putS_ne e]
      exact ⟨⟨f1, st _ _ hs.num.2 (ne_of hs.num.2 h.ud fun z => by cases z) (ne_of hs.num.2 hsk.u fun z => by cases z) (h.dd j k hj hk e)⟩, st _ _ hs.u (ne_of hs.u h.ud ints_ne_refs) (h.uu j k hj hk e) (ne_of hs.u hsk.num.2 fun z => by cases z), f2⟩
  · by_cases e : j = k
    · subst e; rw [putS_same]; exact ok
    · rw [putS_ne e]; exact h.ok j hj
  · by_cases e : j = k
    · subst e; rw [putS_same]; exact hl
    · rw [putS_ne e]; exact Nat.le_trans (h.len j hj) hi
  · by_cases e : j = k
    · subst e; rw [putS_same]; exact n1
    · rw [putS_ne e]; exact h.uq j hj
  · by_cases e : j = k
    · subst e
      rw [putS_same, putS_ne (Ne.symm hjl)]
      exact n2 l hl' (Ne.symm hjl)
    · rw [putS_ne e]
      by_cases e2 : l = k
      · subst e2
        rw [putS_same]
        exact Ne.symm (n2 j hj hjl)
      · rw [putS_ne e2]
        exact h.uu j l hj hl' hjl
  · rw [kd, kd]
    exact h.dd j l hj hl' hjl
theorem two_at {f : Nat → Addr} {k : Nat} (hk : k < 2) : atI [V.ref (f 0), V.ref (f 1)] (k : Int) = some (.ref (f k)) := by
  match k, hk with
  | 0, _ => rfl
  | 1, _ => rfl
theorem putS_set {S : Nat → Side} {k : Nat} {s : Side} (hk : k < 2) : [V.ref (S 0).u, V.ref (S 1).u].set k (.ref s.u) = [.ref (putS S k s 0).u, .ref (putS S k s 1).u] := by
  match k, hk with
  | 0, _ => rfl
  | 1, _ => rfl
theorem inV_ints (x : Int) : ∀ us : List Int, inV (.int x) (us.map V.int) = decide (x ∈ us)
  | [] => rfl
  | y :: us => by
    have ih := inV_ints x us
    unfold inV at ih ⊢
    rw [List.map_cons, List.any_cons, ih]
    by_cases e : y = x
    · subst e
      have : eqV (.int y) (.int y) = true := by simp [eqV]
      rw [this, Bool.true_or, decide_eq_true List.mem_cons_self]
    · have : eqV (.int y) (.int x) = false := by simp [eqV, e]
      rw [this, Bool.false_or]
      by_cases h : x ∈ us
      · rw [decide_eq_true h, decide_eq_true (List.mem_cons_of_mem _ h)]
      · rw [decide_eq_false h, decide_eq_false (fun z => by rcases List.mem_cons.mp z with q | q; exact e q.symm; exact h q)]
theorem flat_intsV (us : List Int) : (us.map V.int).all flatV = true := by
  rw [List.all_eq_true]
  intro x m
  obtain ⟨n, _, e⟩ := List.mem_map.mp m
  subst e
  rfl
theorem erase_at {x : Int} : ∀ {us : List Int}, x ∈ us → ∃ j : Nat, us[j]? = some x ∧ (∀ m : Nat, m < j → us[m]? ≠ some x) ∧ us.eraseIdx j = us.erase x
  | y :: us, h => by
    by_cases e : y = x
    · subst e
      exact ⟨0, rfl, fun m z => absurd z (Nat.not_lt_zero _), by rw [List.erase_cons_head]; rfl⟩
    · have h2 : x ∈ us := by rcases List.mem_cons.mp h with q | q; exact absurd q.symm e; exact q
      obtain ⟨j, j1, j2, j3⟩ := erase_at h2
      refine ⟨j + 1, j1, fun m hm => ?_, ?_⟩
      · cases m with
        | zero => intro z; exact e (Option.some.inj z)
        | succ m => exact j2 m (by omega)
      · have e3 : (y == x) = false := by simpa using e
        rw [List.erase_cons_tail (by rw [e3]; exact Bool.false_ne_true), ← j3]
        rfl
end K

namespace K
open PySem PySem.Spec PyProof.Rows L2
def top (i : Nat) : Stmt := PySem.Challenge.pw_swapslip_k07_whole_round_or_lot.main.body.getD i (.Pass ⟨0, 0, 0, 0⟩)
abbrev sBox : Stmt := top 18
abbrev sTake : Stmt := top 19
section
variable {P : Program} {w : World} {K : PySem.W.Frag} {mg : Str → Option Value} {base : Heap}
theorem scBox : FnScope ["_law_script"] ["_law_script"] (defScope sBox) := ⟨rfl, rfl, rfl, by decide +kernel, rfl, by decide +kernel, by decide +kernel⟩
theorem ok_box {f : Addr} {fd : FuncData} {k : Nat} (F : Fun K "_law_box" "_law_box" sBox f fd) (ml : mg "list" = none) : FnOk P w K mg base CX0 (k + 1) f fd ["_law_script"] (spBox K) := by
  refine F.ok scBox (fun vs H Q E h => ?_) (fun cdv A outer s H vs Q E hr h => ?_)
  · obtain ⟨a, ns, rfl, _⟩ := h
    rfl
  · obtain ⟨a, ns, rfl, hS, hlen, q⟩ := h
    refine ⟨_, pss_one (ps_ret (pe_lst (pa_cons (pe_callTy call_list_of (by rfl) ml (by decide +kernel) (pa_cons (pe_slice sl_list (pv 0) po_none (po_some pe_int)) pa_nil)) (pa_cons pe_int (pa_cons pe_int (pa_cons pe_int pa_nil)))))), ?_⟩
    refine ⟨.ref a, rfl, 63, rfl, a, _, rfl, hS, fun c nc => ?_⟩
    refine ⟨c, _, rfl, .inl (.inl (.inl upd_same)), fun l nl => ?_⟩
    refine ⟨(by show 4 ≤ sizeLine; decide), fun p np => ?_⟩
    have e : ∃ ms : List Int, cutV (ns.map V.int) none (some 63) = ms.map V.int ∧ ms.length ≤ 63 := by
      refine ⟨(ns.drop (HT.sIx ns.length 0 none)).take (HT.sIx ns.length ns.length (some 63) - HT.sIx ns.length 0 none), ?_, ?_⟩
      · unfold cutV
        rw [List.length_map, ← List.map_drop, ← List.map_take]
      · rw [List.length_take, List.length_drop]; omega
    obtain ⟨ms, em, hm⟩ := e
    rw [em] at nl np ⊢
    have s1 := same_upd (o := .lst (ms.map V.int)) nc
    have s2 := same_upd (o := .lst (ms.map V.int)) nl
    have s3 := same_upd (o := .lst [.ref l, .int 0, .int 0, .int 29]) np
    have nlp : l ≠ p := ne_of_none upd_same np
    refine q p l _ (s1.free (s2.free np)) (s1.free nl) ⟨ms, 0, 0, 29, upd_same, ?_, by omega, by omega, by omega, by omega, hm⟩ (s1.trans (s2.trans s3))
    rw [upd_ne nlp, upd_same]
theorem scTake : FnScope ["_law_box_here", "_law_sides", "_law_tail", "_law_cell", "_law_seed"] ["_law_box_here", "_law_sides"] (defScope sTake) := ⟨rfl, rfl, rfl, by decide +kernel, rfl, by decide +kernel, by decide +kernel⟩
theorem ok_take {f : Addr} {fd : FuncData} {k : Nat} (F : Fun K "_law_take" "_law_take" sTake f fd) (mlen : mg "len" = none) : FnOk P w K mg base CX0 (k + 1) f fd ["_law_box_here", "_law_sides"] spTake := by
  refine F.ok scTake (fun vs H Q E h => ?_) (fun cdv A outer s H vs Q E hr h => ?_)
  · obtain ⟨p, q, n, rfl, _⟩ := h
    rfl
  · obtain ⟨p, q, n, rfl, hB, hn, hn2, kk⟩ := h
    refine ⟨_, pss_cons (ps_if (pt_cmpR op_gt (pe_ix ix_list (pv 0) pe_int (fun _ _ => rfl)) pe_int (nomark _))
        (pss_cons (ps_set (i := 2) scTake.nd rfl (.inl rfl) (pe_ix ix_list (pv 0) pe_int (fun _ _ => rfl)))
        (pss_cons (ps_asg (pe_op op_fdivN (pv 2) (pv 1)) (pg_sub (pv 0) pe_int set_list))
        (pss_one (ps_ret (pe_op op_modN (pv 2) (pv 1)))))) pss_nil)
      (pss_cons (ps_set (i := 3) scTake.nd rfl (.inl rfl) pe_int)
      (pss_cons (ps_if (pt_cmpR op_lt (pe_ix ix_list (pv 0) pe_int (fun _ _ => rfl)) (pe_callB call_len_seq (by rfl) mlen PySem.boot_len (pa_cons (pe_ix ix_list (pv 0) pe_int (fun _ _ => rfl)) pa_nil)) (nomark _))
        (pss_cons (ps_set (i := 3) scTake.nd rfl (.inl rfl) (pe_ix ix_list (pe_ix ix_list (pv 0) pe_int (fun _ _ => rfl)) (pe_ix ix_list (pv 0) pe_int (fun _ _ => rfl)) (fun _ _ => rfl)))
        (pss_one (ps_augS (pv 0) pe_int get_listA pe_int ip_add set_list))) pss_nil)
      (pss_cons (ps_if (pt_cmpR op_ge (pv 3) (pe_op op_pow pe_int pe_int) (nomark _))
        (pss_cons (ps_asg (pe_op op_fdivN (pv 3) (pv 1)) (pg_sub (pv 0) pe_int set_list))
        (pss_one (ps_ret (pe_op op_modN (pv 3) (pv 1))))) pss_nil)
      (pss_cons (ps_set (i := 4) scTake.nd rfl (.inl rfl) (pe_ix ix_list (pv 0) pe_int (fun _ _ => rfl)))
      (pss_cons (ps_asg (pe_op op_modN (pe_op op_add (pe_op op_add (pe_op op_add (pe_op op_pow (pv 4) pe_int) (pe_op op_mul pe_int (pv 4))) (pe_op op_mul pe_int (pe_op op_modN (pv 3) pe_int))) pe_int) pe_int) (pg_sub (pv 0) pe_int set_list))
      (pss_one (ps_ret (pe_op op_modN (pe_op op_fdivN (pe_ix ix_list (pv 0) pe_int (fun _ _ => rfl)) pe_int) (pv 1))))))))), ?_⟩
    obtain ⟨ns, i, t, sd, h1, h2, hi0, hi1, hs0, hs1, hl⟩ := id hB
    have npq := hB.ne
    refine ⟨_, rfl, p, _, 2, _, rfl, rfl, SqL.of h1, rfl, _, _, rfl, rfl, _, rfl, ?_⟩
    refine ite2 (fun c => ?_) (fun c => ?_)
    · refine ⟨_, rfl, p, _, 2, _, rfl, rfl, SqL.of h1, rfl, ?_⟩
      refine ⟨_, rfl, _, rfl, t, n, rfl, rfl, ⟨by omega, by omega⟩, _, rfl, p, _, 2, 2, rfl, rfl, h1, rfl, ?_⟩
      refine ⟨_, rfl, _, rfl, t, n, rfl, rfl, (by show n ≠ 0; omega), ?_⟩
      refine kk _ _ (fmod_le hn).1 (fmod_le hn).2 ⟨ns, i, _, sd, upd_same, by rw [upd_ne npq.symm]; exact h2, hi0, hi1, hs0, hs1, hl⟩ But.put
    · -- the cell: some int, the box with another place
      refine ⟨_, rfl, p, _, 1, _, rfl, rfl, SqL.of h1, rfl, _, rfl, p, _, 0, _, rfl, rfl, SqL.of h1, rfl, q, _, rfl, .inl (SqL.of h2), _, _, rfl, rfl, _, rfl, ?_⟩
      rw [List.length_map]
      refine ite2 (fun c => ?_) (fun c => ?_)
      · have hlt : i.toNat < ns.length := by have := of_decide_eq_true c; omega
        have hat : (ns.map V.int)[i.toNat]? = some (.int ns[i.toNat]) := by rw [List.getElem?_map, List.getElem?_eq_getElem hlt]; rfl
        refine ⟨_, rfl, p, _, 0, _, rfl, rfl, SqL.of h1, rfl, _, rfl, p, _, 1, _, rfl, rfl, SqL.of h1, rfl, q, _, i, _, rfl, rfl, SqL.of h2, atI0 hi0 hat, ?_⟩
        refine ⟨_, rfl, p, _, 1, _, rfl, rfl, SqL.of h1, by omega, rfl, i, 1, rfl, rfl, p, _, 1, 1, rfl, rfl, h1, rfl, ?_⟩
        generalize ns[i.toNat] = cell
        have g1 : (upd H p (.lst [.ref q, .int (i + 1), .int t, .int sd])) p = some (.lst [.ref q, .int (i + 1), .int t, .int sd]) := upd_same
        have g2 : (upd H p (.lst [.ref q, .int (i + 1), .int t, .int sd])) q = some (.lst (ns.map V.int)) := by rw [upd_ne npq.symm]; exact h2
        have gi0 : 0 ≤ i + 1 := by omega
        have gi1 : i + 1 ≤ ns.length := by omega
        have gb : But p H (upd H p (.lst [.ref q, .int (i + 1), .int t, .int sd])) := But.put
        show tSeq _ _ _ _ (upd H p (.lst [.ref q, .int (i + 1), .int t, .int sd]))
        generalize upd H p (.lst [.ref q, .int (i + 1), .int t, .int sd]) = H2 at g1 g2 gb ⊢
        generalize i + 1 = i2 at g1 gi0 gi1
        refine ⟨_, rfl, 10, 18, rfl, rfl, ⟨by decide, by decide, by decide⟩, _, _, rfl, rfl, _, rfl, ?_⟩
        refine ite2 (fun c2 => ?_) (fun c2 => ?_)
        · refine ⟨_, rfl, _, rfl, _, n, rfl, rfl, ⟨by omega, by omega⟩, _, rfl, p, _, 2, 2, rfl, rfl, g1, rfl, ?_⟩
          refine ⟨_, rfl, _, rfl, _, n, rfl, rfl, (by show n ≠ 0; omega), ?_⟩
          exact kk _ _ (fmod_le hn).1 (fmod_le hn).2 ⟨ns, _, _, sd, upd_same, by rw [upd_ne npq.symm]; exact g2, gi0, gi1, hs0, hs1, hl⟩ (gb.trans But.put)
        · refine ⟨_, rfl, p, _, 3, _, rfl, rfl, SqL.of g1, rfl, ?_⟩
          refine ⟨_, rfl, sd, 3, rfl, rfl, ⟨by decide, by decide, by omega⟩, _, rfl, 69621, sd, rfl, rfl, .inl ⟨by decide, by decide⟩, _, _, rfl, rfl, _, rfl, _, 2147483549, rfl, rfl, (by decide : (2147483549 : Int) ≠ 0),
            48271, _, rfl, rfl, .inl ⟨by decide, by decide⟩, _, _, rfl, rfl, _, _, rfl, rfl, _, 2147483549, rfl, rfl, (by decide : (2147483549 : Int) ≠ 0), _, rfl, p, _, 3, 3, rfl, rfl, g1, rfl, ?_⟩
          refine ⟨_, rfl, p, _, 3, _, rfl, rfl, SqL.of upd_same, rfl, _, 64, rfl, rfl, ⟨by decide, by decide⟩, _, rfl, _, n, rfl, rfl, (by show n ≠ 0; omega), ?_⟩
          exact kk _ _ (fmod_le hn).1 (fmod_le hn).2 ⟨ns, _, _, _, upd_same, by rw [upd_ne npq.symm]; exact g2, gi0, gi1, (fmod_le (by decide)).1, (fmod_le (by decide)).2, hl⟩ (gb.trans But.put)
      · have g1 := h1
        have g2 := h2
        have gi0 := hi0
        have gi1 := hi1
        have gb := But.refl p H
        refine ⟨_, rfl, 10, 18, rfl, rfl, ⟨by decide, by decide, by decide⟩, _, _, rfl, rfl, _, rfl, ?_⟩
        refine ite2 (fun c2 => ?_) (fun c2 => ?_)
        · refine ⟨_, rfl, _, rfl, _, n, rfl, rfl, ⟨by omega, by omega⟩, _, rfl, p, _, 2, 2, rfl, rfl, g1, rfl, ?_⟩
          refine ⟨_, rfl, _, rfl, _, n, rfl, rfl, (by show n ≠ 0; omega), ?_⟩
          exact kk _ _ (fmod_le hn).1 (fmod_le hn).2 ⟨ns, _, _, sd, upd_same, by rw [upd_ne npq.symm]; exact g2, gi0, gi1, hs0, hs1, hl⟩ (gb.trans But.put)
        · refine ⟨_, rfl, p, _, 3, _, rfl, rfl, SqL.of g1, rfl, ?_⟩
          refine ⟨_, rfl, sd, 3, rfl, rfl, ⟨by decide, by decide, by omega⟩, _, rfl, 69621, sd, rfl, rfl, .inl ⟨by decide, by decide⟩, _, _, rfl, rfl, _, rfl, _, 2147483549, rfl, rfl, (by decide : (2147483549 : Int) ≠ 0),
            48271, _, rfl, rfl, .inl ⟨by decide, by decide⟩, _, _, rfl, rfl, _, _, rfl, rfl, _, 2147483549, rfl, rfl, (by decide : (2147483549 : Int) ≠ 0), _, rfl, p, _, 3, 3, rfl, rfl, g1, rfl, ?_⟩
          refine ⟨_, rfl, p, _, 3, _, rfl, rfl, SqL.of upd_same, rfl, _, 64, rfl, rfl, ⟨by decide, by decide⟩, _, rfl, _, n, rfl, rfl, (by show n ≠ 0; omega), ?_⟩
          exact kk _ _ (fmod_le hn).1 (fmod_le hn).2 ⟨ns, _, _, _, upd_same, by rw [upd_ne npq.symm]; exact g2, gi0, gi1, (fmod_le (by decide)).1, (fmod_le (by decide)).2, hl⟩ (gb.trans But.put)
end
end K

namespace K
open PySem PySem.Spec PyProof.Rows L2
open Sw (T3 Dist at? relax roundOf rounds)
abbrev sCheck : Stmt := top 7
section
variable {P : Program} {w : World} {K : PySem.W.Frag} {mg : Str → Option Value} {base : Heap}
theorem scCheck : FnScope ["many", "house"] ["many", "house"] (defScope sCheck) := ⟨rfl, rfl, rfl, by decide +kernel, rfl, by decide +kernel, by decide +kernel⟩
theorem ok_check {f : Addr} {fd : FuncData} {k : Nat} (F : Fun K "check_house" "check_house" sCheck f fd) : FnOk P w K mg base CX0 (k + 1) f fd ["many", "house"] spCheck := by
  refine F.ok scCheck (fun vs H Q E h => ?_) (fun cdv A outer s H vs Q E hr h => ?_)
  · obtain ⟨n, g, rfl, _⟩ := h
    rfl
  · obtain ⟨n, g, rfl, hg, q⟩ := h
    refine ⟨_, pss_one (ps_if (PW.pt (pw_or (pt_cmpR op_lt (pv 1) pe_int (nomark _)) (pw_or1 (pt_cmpR op_ge (pv 1) (pv 0) (nomark _))))) (pss_one ps_never) pss_nil), ?_⟩
    refine ⟨_, rfl, _, _, rfl, rfl, _, rfl, ?_⟩
    rw [decide_eq_false (show ¬ ((g : Int) < 0) by omega)]
    refine iteF ?_
    refine ⟨_, rfl, _, rfl, _, _, rfl, rfl, _, rfl, ?_⟩
    rw [decide_eq_false (show ¬ ((n : Int) ≤ (g : Int)) by omega)]
    exact iteF q
end
end K

namespace K
open PySem PySem.Spec PyProof.Rows L2
open Sw (T3 Dist at? relax roundOf rounds)
abbrev sCheap : Stmt := top 9
abbrev sFar : Stmt := top 10
section
variable {P : Program} {w : World} {K : PySem.W.Frag} {mg : Str → Option Value} {base : Heap}
theorem scCheap : FnScope ["prices", "house", "near", "price", "total"] ["prices", "house", "near", "price"] (defScope sCheap) := ⟨rfl, rfl, rfl, by decide +kernel, rfl, by decide +kernel, by decide +kernel⟩
theorem ok_cheap {f : Addr} {fd : FuncData} {k : Nat} (F : Fun K "cheapen" "cheapen" sCheap f fd) : FnOk P w K mg base CX0 (k + 1) f fd ["prices", "house", "near", "price"] spCheap := by
  refine F.ok scCheap (fun vs H Q E h => ?_) (fun cdv A outer s H vs Q E hr h => ?_)
  · obtain ⟨p, d, a, b, c, rfl, _⟩ := h
    rfl
  · obtain ⟨p, d, a, b, c, rfl, hp, ha, hb, kk⟩ := h
    refine ⟨_, pss_cons (ps_if (pt_cmpR op_isN (pe_ix ix_list (pv 0) (pv 2) (fun _ _ => rfl)) pe_non (nomark _)) (pss_one ps_retN) pss_nil)
      (pss_cons (ps_set (i := 4) scCheap.nd rfl (.inl rfl) (pe_op op_add (pe_ix ix_list (pv 0) (pv 2) (fun _ _ => rfl)) (pv 3)))
      (pss_one (ps_if (PW.pt (pw_or (pt_cmpR op_isN (pe_ix ix_list (pv 0) (pv 1) (fun _ _ => rfl)) pe_non (nomark _)) (pw_or1 (pt_cmpR op_lt (pv 4) (pe_ix ix_list (pv 0) (pv 1) (fun _ _ => rfl)) (nomark _)))))
        (pss_one (ps_asg (pv 4) (pg_sub (pv 0) (pv 1) set_list))) pss_nil))), ?_⟩
    have hA := atI_nat (at_of ha)
    have hB := atI_nat (at_of hb)
    refine ⟨_, rfl, _, rfl, p, _, _, _, rfl, rfl, SqL.of hp, hB, rfl, _, rfl, ?_⟩
    cases eb : at? d b with
    | none =>
      refine iteT ?_
      refine kk H ?_ (But.refl p H)
      unfold relax
      simp only [eb]
      exact hp
    | some y =>
      refine iteF ?_
      rw [eb] at hB
      refine ⟨_, rfl, _, rfl, p, _, _, _, rfl, rfl, SqL.of hp, hB, _, rfl, _, _, rfl, rfl, ?_⟩
      refine ⟨_, rfl, _, rfl, p, _, _, _, rfl, rfl, SqL.of hp, hA, rfl, _, rfl, ?_⟩
      have put : ∀ z : Nat, (z : Int) = (y : Int) + (c : Int) → upd H p (.lst ((d.map ov).set a (.int ((y : Int) + (c : Int))))) p = some (.lst ((d.set a (some z)).map ov)) := fun z hz => by
        rw [upd_same, ← set_ov, ← hz]
        rfl
      cases ea : at? d a with
      | none =>
        refine iteT ?_
        refine ⟨_, rfl, _, rfl, _, rfl, p, _, _, a, rfl, rfl, hp, ?_, ?_⟩
        · rw [List.length_map]; exact ixN_nat ha
        · refine kk _ ?_ But.put
          unfold relax
          simp only [eb, ea]
          exact put (y + c) (by omega)
      | some x =>
        refine iteF ?_
        rw [ea] at hA
        refine ⟨_, rfl, _, rfl, _, rfl, p, _, _, _, rfl, rfl, SqL.of hp, hA, _, _, rfl, rfl, _, rfl, ?_⟩
        refine ite2 (fun l => ?_) (fun l => ?_)
        · have l := of_decide_eq_true l
          refine ⟨_, rfl, _, rfl, _, rfl, p, _, _, a, rfl, rfl, hp, ?_, ?_⟩
          · rw [List.length_map]; exact ixN_nat ha
          · refine kk _ ?_ But.put
            unfold relax
            simp only [eb, ea]
            rw [if_pos (by omega)]
            exact put (y + c) (by omega)
        · have l : ¬ ((y : Int) + (c : Int) < (x : Int)) := fun q => l (decide_eq_true q)
          refine kk H ?_ (But.refl p H)
          unfold relax
          simp only [eb, ea]
          rw [if_neg (by omega)]
          exact hp
theorem scFar : FnScope ["many", "ties", "goal", "prices", "turn", "one", "other", "price"] ["many", "ties", "goal"] (defScope sFar) := ⟨rfl, rfl, rfl, by decide +kernel, rfl, by decide +kernel, by decide +kernel⟩
theorem ok_far {f fC fH : Addr} {fd fdC fdH : FuncData} {k : Nat} (F : Fun K "far" "far" sFar f fd) (FC : Fun K "check_house" "check_house" sCheck fC fdC) (FH : Fun K "cheapen" "cheapen" sCheap fH fdH)
    (gC : mg "check_house" = some (.ref fC)) (gH : mg "cheapen" = some (.ref fH)) (mr : mg "range" = none) (bC : Binds K fdC ["many", "house"] []) (bH : Binds K fdH ["prices", "house", "near", "price"] []) : FnOk P w K mg base CX0 (k + 2) f fd ["many", "ties", "goal"] spFar := by
  have GC : FnOk P w K mg base CX0 (k + 1) fC fdC ["many", "house"] spCheck := ok_check FC
  have GH : FnOk P w K mg base CX0 (k + 1) fH fdH ["prices", "house", "near", "price"] spCheap := ok_cheap FH
  refine F.ok scFar (fun vs H Q E h => ?_) (fun cdv A outer s H vs Q E hr h => ?_)
  · obtain ⟨n, g, t, ts, rfl, _⟩ := h
    rfl
  · obtain ⟨n, g, t, ts, rfl, hg, hn, hT, hF, kk⟩ := h
    refine ⟨_, pss_cons (ps_expr (pe_call GC hr (by rfl) gC FC.kp bC .nil pass0 (pa_cons (pv 0) (pa_cons (pv 2) pa_nil))))
      (pss_cons (ps_set (i := 3) scFar.nd rfl (.inl rfl) (pe_op op_rep (pe_lst (pa_cons pe_non pa_nil)) (pv 0)))
      (pss_cons (ps_asg pe_int (pg_sub (pv 3) (pv 2) set_list))
      (pss_cons (ps_for PassesOwn.never rfl (pi_range1 rfl mr (pa_cons (pv 0) pa_nil)) (pg_name (i := 4) scFar.nd rfl (Or.inl rfl))
        (pss_one (ps_for PassesOwn.never rfl (pi_list (pv 1)) (pg_tup rfl (pgs_cons (pg_name (i := 5) scFar.nd rfl (Or.inl rfl)) (pgs_cons (pg_name (i := 6) scFar.nd rfl (Or.inl rfl)) (pgs_cons (pg_name (i := 7) scFar.nd rfl (Or.inl rfl)) pgs_nil))))
          (pss_cons (ps_expr (pe_call GH hr (by rfl) gH FH.kp bH .nil pass0 (pa_cons (pv 3) (pa_cons (pv 5) (pa_cons (pv 6) (pa_cons (pv 7) pa_nil))))))
          (pss_one (ps_expr (pe_call GH hr (by rfl) gH FH.kp bH .nil pass0 (pa_cons (pv 3) (pa_cons (pv 6) (pa_cons (pv 5) (pa_cons (pv 7) pa_nil))))))))))) 
      (pss_one (ps_ret (pv 3)))))), ?_⟩
    refine ⟨_, rfl, _, rfl, n, g, rfl, hg, ?_⟩
    -- [None] * many
    refine ⟨(by show 1 ≤ sizeLine; decide), fun l nl => ?_⟩
    have s1 : Same H (upd H l (.lst [.non])) := same_upd nl
    refine ⟨_, rfl, l, n, _, rfl, rfl, upd_same, by omega, by omega, ?_, fun p np => ?_⟩
    · rw [Int.toNat_natCast]
      exact Nat.le_of_lt (small1000 (by show 1 * n ≤ 1000; omega))
    rw [Int.toNat_natCast, rep_non]
    have np0 : H p = none := s1.free np
    -- prices[goal] = 0
    refine ⟨_, rfl, _, rfl, p, _, _, g, rfl, rfl, upd_same, ?_, ?_⟩
    · rw [List.length_map, List.length_replicate]; exact ixN_nat hg
    have e0 : ((List.replicate n (none : Option Nat)).map ov).set g (.int 0) = (Sw.start n g).map ov := by
      unfold Sw.start
      rw [← set_ov]
      rfl
    rw [e0]
    -- the rounds
    refine ⟨_, rfl, n, rfl, by omega, by omega, for_range (n := n) (fun i σ H' => ∃ y4 y5 y6 y7, σ = [some (.int (n : Nat)), some (.ref t), some (.int (g : Nat)), some (.ref p), y4, y5, y6, y7] ∧ Same H H' ∧ DistAt H' p (rounds (both ts) i (Sw.start n g)))
      ⟨none, none, none, none, rfl, fun b o e => ?_, upd_same⟩ ?_ ?_⟩
    · rw [upd_ne (ne_of_none e np0), upd_ne (ne_of_none e np0)]
      exact s1 _ _ e
    · rintro i σ H' hi ⟨y4, y5, y6, y7, rfl, sm, hd⟩
      obtain ⟨as, ht, hp⟩ := hT
      have hlen := paired_len hp
      refine ⟨_, rfl, t, rfl, ⟨_, SqL.of (sm _ _ ht)⟩, for_list (K := K) (a := t) (xs := as.map V.ref) (fun j σ H2 => ∃ z5 z6 z7, σ = [some (.int (n : Nat)), some (.ref t), some (.int (g : Nat)), some (.ref p), some (.int (0 + (i : Int))), z5, z6, z7] ∧ Same H H2 ∧ DistAt H2 p (roundOf (both (ts.take j)) (rounds (both ts) i (Sw.start n g))))
        ⟨y5, y6, y7, rfl, sm, hd⟩ (fun j σ H2 _ ⟨_, _, _, _, s2, _⟩ => SqL.of (s2 _ _ ht)) ?_ ?_⟩
      · rintro j y σ H2 hj ⟨z5, z6, z7, rfl, s2, h2⟩
        obtain ⟨a, ea, rfl⟩ := map_ref_at hj
        obtain ⟨e, ee, he⟩ := paired_at hp j a ea
        obtain ⟨e1, e2, e3⟩ := e
        have hb := hF _ (List.mem_of_getElem? ee)
        have hdl : ∀ L, (roundOf L (rounds (both ts) i (Sw.start n g))).length = n := fun L => by rw [Sw.round_len, Sw.rounds_len]; simp [Sw.start]
        refine ⟨a, tv (e1, e2, e3), rfl, SqT.of (s2 _ _ he), rfl, _, _, rfl, _, _, rfl, _, _, rfl, rfl, ?_⟩
        refine ⟨_, rfl, _, rfl, _, rfl, _, rfl, p, _, e1, e2, e3, rfl, h2, by rw [hdl]; exact hb.1, by rw [hdl]; exact hb.2, fun H3 h3 b3 => ?_⟩
        refine ⟨_, rfl, _, rfl, _, rfl, _, rfl, p, _, e2, e1, e3, rfl, h3, by rw [Sw.relax_len, hdl]; exact hb.2, by rw [Sw.relax_len, hdl]; exact hb.1, fun H4 h4 b4 => ?_⟩
        refine ⟨_, _, _, rfl, fun b o q => b4 _ _ (b3 _ _ (s2 _ _ q) (ne_of_none q np0)) (ne_of_none q np0), ?_⟩
        rw [take_succ_of ee, both_snoc, roundOf_append]
        exact h4
      · rintro σ H2 ⟨z5, z6, z7, rfl, s2, h2⟩
        refine ⟨_, _, _, _, rfl, s2, ?_⟩
        rw [Sw.rounds_succ]
        rw [List.length_map, hlen, List.take_length] at h2
        exact h2
    · rintro σ H' ⟨y4, y5, y6, y7, rfl, sm, hd⟩
      exact ⟨_, rfl, kk p H' np0 sm hd⟩
end
end K

namespace K
open PySem PySem.Spec PyProof.Rows L2
open Sw (T3 Dist at? relax roundOf rounds)
abbrev sPairs : Stmt := top 20
section
variable {P : Program} {w : World} {K : PySem.W.Frag} {mg : Str → Option Value} {base : Heap}
theorem scPairs : FnScope ["_law_many", "_law_one", "_law_other"] ["_law_many"] (defScope sPairs) := ⟨rfl, rfl, rfl, by decide +kernel, rfl, by decide +kernel, by decide +kernel⟩
def scIn : Scope := { kind := .function, names := [(".0", .local), ("_law_one", .cell), ("range", .globalImplicit), ("_law_many", .cell)], isGenerator := false, isCoroutine := false }
def PairsP (H : Hp) (as : List Addr) (ps : List (Nat × Nat)) : Prop := Paired (fun a p => H a = some (.tup [.int (p.1 : Nat), .int (p.2 : Nat)])) as ps
theorem PairsP.at {H H' : Hp} {as : List Addr} {ps : List (Nat × Nat)} (h : PairsP H as ps) (k : ∀ a ys, H a = some (.tup ys) → H' a = some (.tup ys)) : PairsP H' as ps := paired_mono (fun a p q => k _ _ q) h
def spPairsD : Sp := fun vs H Q _ => ∃ n : Nat, vs = [.int (n : Nat)] ∧ 0 < n ∧ n ≤ 8 ∧ ∀ (p : Addr) (H' : Hp) (as : List Addr), H p = none → Same H H' → H' p = some (.lst (as.map V.ref)) → PairsP H' as (pairsL n) → Q (.ref p) H'
theorem ok_pairsD {f : Addr} {fd : FuncData} {k : Nat} (F : Fun K "_law_pairs" "_law_pairs" sPairs f fd) (msum : mg "sum" = none) (mr : mg "range" = none) : FnOk P w K mg base CX0 (k + 1) f fd ["_law_many"] spPairsD := by
  refine F.ok scPairs (fun vs H Q E h => ?_) (fun cdv A outer s H vs Q E hr h => ?_)
  · obtain ⟨n, rfl, _⟩ := h
    rfl
  · obtain ⟨n, rfl, h0, h8, kk⟩ := h
    refine ⟨_, pss_one (ps_ret (pe_callB (cr_sumL rfl) (by rfl) msum (by decide +kernel) (pa_cons
      (pe_lc (own := [("_law_one", 1)]) (g := gName 1) (tt := tYes) rfl scPairs.nd (pi_range1 rfl mr (pa_cons (pv 0) pa_nil)) (blkOk_by (own := [("_law_one", 1)]) (N := ["_law_many", "_law_one", "_law_other"]) (sc := defScope sPairs) (by decide +kernel))
        (fun _ _ _ _ _ => by exact (pg_name (i := 1) scPairs.nd rfl (Or.inr rfl))) (fun _ _ _ _ _ => pts_nil)
        (fun _ _ _ _ _ => pe_lc (own := [("_law_other", 2)]) (g := gName 2) (tt := tYes) rfl scPairs.nd (by exact (pi_range2 (by rfl) mr (pa_cons (pe_op op_add (pv 1) pe_int) (pa_cons (pv 0) pa_nil)))) (blkOk_by (own := [("_law_other", 2)]) (N := ["_law_many", "_law_one", "_law_other"]) (sc := scIn) (by decide +kernel))
          (fun _ _ _ _ _ => by exact (pg_name (i := 2) scPairs.nd rfl (Or.inl rfl))) (fun _ _ _ _ _ => pts_nil)
          (fun _ _ _ _ _ => by exact (pe_tup (pa_cons (pv 1) (pa_cons (pv 2) pa_nil)))))) (pa_cons (pe_lst pa_nil) pa_nil)))), ?_⟩
    refine ⟨_, rfl, n, rfl, by omega, by omega, fun D nD => ?_⟩
    refine lc_range (lo := 0) (n := n) (fun i H' => Same H H' ∧ ∃ (ls : List Addr) (ass : List (List Addr)), H' D = some (.lst (ls.map V.ref)) ∧ ls.length = i ∧ Paired (fun l as => l ≠ D ∧ H' l = some (.lst (as.map V.ref))) ls ass ∧ PairsP H' ass.flatten ((List.range i).flatMap fun i => rowP i (n - (i + 1))) ∧ ∀ as ∈ ass, as.length ≤ n)
      ⟨same_upd nD, [], [], upd_same, rfl, .nil, .nil, fun xs m => by cases m⟩ ?_ ?_
    · rintro i H1 hi ⟨s1, ls, ass, hD, hl, hp, hx, hz⟩
      refine ⟨rfl, ?_⟩
      refine ⟨_, rfl, _, _, rfl, rfl, _, rfl, _, _, rfl, ⟨by omega, by omega, by omega, by omega⟩, fun D2 nD2 => ?_⟩
      have nDD : D ≠ D2 := ne_of_none hD nD2
      have hw : ((n : Int) - (0 + (i : Int) + 1)).toNat = n - (i + 1) := by omega
      refine lc_range (fun j H2 => Same H1 H2 ∧ ∃ as : List Addr, H2 D2 = some (.lst (as.map V.ref)) ∧ as.length = j ∧ PairsP H2 as (rowP i j)) ⟨same_upd nD2, [], upd_same, rfl, .nil⟩ ?_ ?_
      · rintro j H2 hj ⟨s2, as, hD2, hxl, hxs⟩
        refine ⟨rfl, ?_⟩
        refine ⟨_, rfl, _, rfl, (by show 2 ≤ sizeLine; decide), fun t nt => ?_⟩
        have s3 := same_upd (o := .tup [.int (0 + (i : Int)), .int (0 + (i : Int) + 1 + (j : Int))]) nt
        have ntD : t ≠ D2 := Ne.symm (ne_of_none hD2 nt)
        refine ⟨_, s3 _ _ hD2, by rw [List.length_map, hxl]; exact small1000 (by omega), fun b o e => ?_, as ++ [t], ?_, by rw [List.length_append, hxl]; rfl, ?_⟩
        · rw [upd_ne (ne_of_none e nD2)]
          exact s3 _ _ (s2 _ _ e)
        · rw [upd_same, List.map_append] <;> rfl
        · have keep : ∀ a ys, H2 a = some (.tup ys) → (upd (upd H2 t (.tup [.int (0 + (i : Int)), .int (0 + (i : Int) + 1 + (j : Int))])) D2 (.lst (as.map V.ref ++ [.ref t]))) a = some (.tup ys) := fun a ys e => by
            rw [upd_ne (ne_of e hD2 (fun z => by cases z))]
            exact s3 _ _ e
          have er : rowP i (j + 1) = rowP i j ++ [(i, i + 1 + j)] := by
            unfold rowP
            rw [List.range_succ, List.map_append]
            rfl
          rw [er]
          refine paired_append (hxs.at keep) (.cons ?_ .nil)
          show (upd (upd H2 t (.tup [.int (0 + (i : Int)), .int (0 + (i : Int) + 1 + (j : Int))])) D2 (.lst (as.map V.ref ++ [.ref t]))) t = some (.tup [.int ((i : Nat) : Int), .int ((i + 1 + j : Nat) : Int)])
          rw [upd_ne ntD, upd_same]
          have e1 : (0 + (i : Int)) = ((i : Nat) : Int) := by omega
          have e2 : (0 + (i : Int) + 1 + (j : Int)) = ((i + 1 + j : Nat) : Int) := by omega
          rw [e2, e1]
      · rintro H2 ⟨s2, as, hD2, hxl, hxs⟩
        rw [hw] at hxs hxl
        have keep : ∀ a ys, H2 a = some (.tup ys) → (upd H2 D (.lst (ls.map V.ref ++ [.ref D2]))) a = some (.tup ys) := fun a ys e => by
          rw [upd_ne (ne_of e (s2 _ _ hD) (fun z => by cases z))]
          exact e
        refine ⟨_, s2 _ _ hD, by rw [List.length_map, hl]; exact small1000 (by omega), fun b o e => ?_, ls ++ [D2], ass ++ [as], ?_, by rw [List.length_append, hl]; rfl, ?_, ?_, fun ys m => ?_⟩
        · rw [upd_ne (ne_of_none e nD)]
          exact s2 _ _ (s1 _ _ e)
        · rw [upd_same, List.map_append] <;> rfl
        · refine paired_append (paired_mono (fun l zs q => ⟨q.1, by rw [upd_ne q.1]; exact s2 _ _ q.2⟩) hp) (.cons ⟨Ne.symm nDD, ?_⟩ .nil)
          rw [upd_ne (Ne.symm nDD)]
          exact hD2
        · rw [List.flatten_append, List.range_succ, List.flatMap_append, List.flatMap_singleton, List.flatten_singleton]
          exact paired_append ((hx.at fun a zs e => s2 _ _ e).at keep) (hxs.at keep)
        · rcases List.mem_append.mp m with q | q
          · exact hz ys q
          · simp at q
            subst q
            omega
    · rintro H1 ⟨s1, ls, ass, hD, hl, hp, hx, hz⟩
      refine ⟨Nat.zero_le _, fun z nz => ?_⟩
      have s2 := same_upd (o := .lst []) nz
      have hxl : ass.length = n := by rw [← hl]; exact (paired_len hp).symm
      have hfl := flat_len (n := n) hz
      have hb : ass.length * n ≤ 8 * 8 := by rw [hxl]; exact Nat.mul_le_mul h8 h8
      have ef : (ass.map (List.map V.ref)).flatten = ass.flatten.map V.ref := by rw [List.map_flatten]
      have hlen : (ass.map (List.map V.ref)).flatten.length = ass.flatten.length := by rw [ef, List.length_map]
      have hp2 : Paired (fun l xs => H1 l = some (.lst xs)) ls (ass.map (List.map V.ref)) := by
        clear hl hx hxl hfl hb ef hlen hz hD
        induction hp with
        | nil => exact .nil
        | cons r _ ih => exact .cons r.2 ih
      refine ⟨D, z, ls, ass.map (List.map V.ref), [], rfl, s2 _ _ hD, upd_same, paired_mono (fun l xs q => s2 _ _ q) hp2, fun e => by rw [e] at hl; simp at hl; omega, ?_, fun p np => ?_⟩
      · exact Nat.le_of_lt (small1000 (by rw [hlen]; show 0 + ass.flatten.length ≤ 1000; omega))
      · have s3 := same_upd (o := .lst ([] ++ (ass.map (List.map V.ref)).flatten)) np
        refine kk p _ ass.flatten (s1.free (s2.free np)) (s1.trans (s2.trans s3)) (by rw [upd_same, List.nil_append, ef]) ((hx.at fun a ys e => s2 _ _ e).at fun a ys e => s3 _ _ e)
end
end K

namespace K
open PySem PySem.Spec PyProof.Rows L2
open Sw (T3 Dist at? relax roundOf rounds)
abbrev sSome : Stmt := top 21
section
variable {P : Program} {w : World} {K : PySem.W.Frag} {mg : Str → Option Value} {base : Heap}
theorem scSome : FnScope ["_law_box_here", "_law_many", "_law_odds", "_law_found", "_law_one", "_law_other"] ["_law_box_here", "_law_many", "_law_odds"] (defScope sSome) := ⟨rfl, rfl, rfl, by decide +kernel, rfl, by decide +kernel, by decide +kernel⟩
def spSomeD : Sp := fun vs H Q _ => ∃ (p q : Addr) (n : Nat) (o : Int), vs = [.ref p, .int (n : Nat), .int o] ∧ BoxAt H p q ∧ 0 < n ∧ n ≤ 8 ∧ ∀ (r : Addr) (H' : Hp) (ts : List T3), H r = none → BoxAt H' p q → But p H H' → TiesAt H' r ts → Good n ts → ts.length ≤ 14 → (ts.map pr).Nodup → Q (.ref r) H'
theorem ok_someD {f fT fP : Addr} {fd fdT fdP : FuncData} {k : Nat} (F : Fun K "_law_some_ties" "_law_some_ties" sSome f fd) (FT : Fun K "_law_take" "_law_take" sTake fT fdT) (gT : mg "_law_take" = some (.ref fT)) (bT : Binds K fdT ["_law_box_here", "_law_sides"] [])
    (FP : Fun K "_law_pairs" "_law_pairs" sPairs fP fdP) (gP : mg "_law_pairs" = some (.ref fP)) (bP : Binds K fdP ["_law_many"] []) (mlen : mg "len" = none) (msum : mg "sum" = none) (mr : mg "range" = none) :
    FnOk P w K mg base CX0 (k + 2) f fd ["_law_box_here", "_law_many", "_law_odds"] spSomeD := by
  have GT : FnOk P w K mg base CX0 (k + 1) fT fdT ["_law_box_here", "_law_sides"] spTake := ok_take FT mlen
  have GP : FnOk P w K mg base CX0 (k + 1) fP fdP ["_law_many"] spPairsD := ok_pairsD FP msum mr
  refine F.ok scSome (fun vs H Q E h => ?_) (fun cdv A outer s H vs Q E hr h => ?_)
  · obtain ⟨p, q, n, o, rfl, _⟩ := h
    rfl
  · obtain ⟨p, q, n, o, rfl, hB, h0, h8, kk⟩ := h
    refine ⟨_, pss_cons (ps_set (i := 3) scSome.nd rfl (.inl rfl) (pe_lst pa_nil))
      (pss_cons (ps_for PassesOwn.never rfl (pi_list (pe_call GP hr (by rfl) gP FP.kp bP .nil pass0 (pa_cons (pv 1) pa_nil))) (pg_tup rfl (pgs_cons (pg_name (i := 4) scSome.nd rfl (Or.inl rfl)) (pgs_cons (pg_name (i := 5) scSome.nd rfl (Or.inl rfl)) pgs_nil)))
        (pss_one (ps_if (PW.pt (pw_and (pt_cmpR op_lt (pe_callB call_len_seq (by rfl) mlen PySem.boot_len (pa_cons (pv 3) pa_nil)) pe_int (nomark _))
            (pw_and1 (pt_cmpR op_lt (pe_call GT hr (by rfl) gT FT.kp bT .nil pass0 (pa_cons (pv 0) (pa_cons pe_int pa_nil))) (pv 2) (nomark _)))))
          (pss_one (ps_expr (pe_bm PySem.F.plainAttrs_list PySem.F.slot_list_append PySem.F.type_list_append mt_append (pv 3)
            (pa_cons (pe_tup (pa_cons (pv 4) (pa_cons (pv 5) (pa_cons (pe_op op_add pe_int (pe_call GT hr (by rfl) gT FT.kp bT .nil pass0 (pa_cons (pv 0)
              (pa_cons (pe_ix ix_list (pe_lst (pa_cons pe_int (pa_cons pe_int pa_nil))) (pe_call GT hr (by rfl) gT FT.kp bT .nil pass0 (pa_cons (pv 0) (pa_cons pe_int pa_nil))) (fun _ _ => rfl)) pa_nil)))) pa_nil)))) pa_nil)))) pss_nil)))
      (pss_one (ps_ret (pv 3)))), ?_⟩
    refine ⟨Nat.zero_le _, fun r nr => ?_⟩
    obtain ⟨op, ep⟩ := hB.p_some
    obtain ⟨oq, eq⟩ := hB.q_some
    have nrp : r ≠ p := Ne.symm (ne_of_none ep nr)
    have nrq : r ≠ q := Ne.symm (ne_of_none eq nr)
    have s1 := same_upd (o := .lst []) nr
    refine ⟨_, rfl, n, rfl, h0, h8, fun a H1 as na s2 ha hp => ?_⟩
    have hps : ∀ p ∈ pairsL n, p.1 < p.2 ∧ p.2 < n := fun p m => pairsL_mem m
    have nap : a ≠ p := Ne.symm (ne_of_none (s1 _ _ ep) na)
    have nar : a ≠ r := Ne.symm (ne_of_none upd_same na)
    -- tuples stand apart from the box and from the list that grows
    refine ⟨a, rfl, ⟨_, SqL.of ha⟩, for_list (K := K) (a := a) (xs := as.map V.ref) (fun i σ H' => ∃ y4 y5 ts, σ = [some (.ref p), some (.int (n : Nat)), some (.int o), some (.ref r), y4, y5] ∧ BoxAt H' p q ∧ But p H H' ∧
        (∀ b u, H1 b = some u → b ≠ p → b ≠ r → H' b = some u) ∧ TiesAt H' r ts ∧ Good n ts ∧ ts.length ≤ 14 ∧ (ts.map pr).Sublist ((pairsL n).take i))
      ⟨none, none, [], rfl, (hB.same s1).same s2, (But.of_same s1).trans (But.of_same s2), fun b u e _ _ => e, ⟨[], s2 _ _ upd_same, .nil⟩, fun e m => (by cases m), Nat.zero_le _, List.nil_sublist _⟩
      (fun i σ H' _ ⟨_, _, _, _, _, _, b, _⟩ => SqL.of (b _ _ ha nap nar)) ?_ ?_⟩
    · rintro i y σ H' hi ⟨y4, y5, ts, rfl, B1, b1, c1, hT, hG, hL, hSb⟩
      obtain ⟨x, ex, rfl⟩ := map_ref_at hi
      obtain ⟨e, ee, he⟩ := paired_at hp i x ex
      obtain ⟨e1, e2⟩ := e
      have hb := hps _ (List.mem_of_getElem? ee)
      have hsk : (ts.map pr).Sublist ((pairsL n).take (i + 1)) := by rw [take_succ_of ee]; exact hSb.trans (List.sublist_append_left _ _)
      have nxp : x ≠ p := ne_of he (s2 _ _ (s1 _ _ ep)) (fun z => by obtain ⟨_, _, _, _, z1, _⟩ := hB; rw [ep] at z1; cases z1; cases z)
      have nxr : x ≠ r := ne_of he (s2 _ _ upd_same) (fun z => by cases z)
      refine ⟨x, _, rfl, SqT.of (c1 _ _ he nxp nxr), rfl, _, _, rfl, _, _, rfl, rfl, ?_⟩
      obtain ⟨bs, h1, h2⟩ := id hT
      have hbl : bs.length = ts.length := paired_len h2
      refine ⟨_, rfl, r, _, rfl, .inl (SqL.of h1), _, _, rfl, rfl, _, rfl, ?_⟩
      rw [List.length_map]
      refine ite2 (fun c => ?_) (fun c => ?_)
      · have c := of_decide_eq_true c
        refine ⟨_, rfl, p, q, 8, rfl, B1, by omega, by omega, fun z H2 hz0 hz1 B2 b2 => ?_⟩
        refine ⟨_, rfl, _, _, rfl, rfl, _, rfl, ?_⟩
        have T2 : ∀ {Ha Hb : Hp}, But p Ha Hb → BoxAt Ha p q → TiesAt Ha r ts → TiesAt Hb r ts := fun {Ha Hb} bb BB TT => by
          obtain ⟨bs, h1, h2⟩ := TT
          obtain ⟨_, _, _, _, z1, _⟩ := BB
          exact ⟨bs, bb _ _ h1 nrp, paired_mono (fun a e q => bb _ _ q (ne_of q z1 (fun z => by cases z))) h2⟩
        have hT2 := T2 b2 B1 hT
        refine ite2 (fun c2 => ?_) (fun c2 => ?_)
        · obtain ⟨bs2, h12, h22⟩ := id hT2
          refine ⟨_, rfl, .inl ⟨rfl, _, SqL.of h12⟩, _, rfl, _, rfl, _, rfl, (by show 2 ≤ sizeLine; decide), fun l nl => ?_⟩
          have s3 := same_upd (o := .lst [.int 2, .int 9]) nl
          refine ⟨_, rfl, p, q, 2, rfl, B2.same s3, by omega, by omega, fun z3 H3 hz30 hz31 B3 b3 => ?_⟩
          obtain ⟨op2, ep2⟩ := B2.p_some
          have nlp : l ≠ p := Ne.symm (ne_of_none ep2 nl)
          have hl3 : H3 l = some (.lst [.int 2, .int 9]) := b3 _ _ upd_same nlp
          have hT3 := T2 b3 (B2.same s3) (hT2.same s3)
          have hv : ∃ v : Int, (v = 2 ∨ v = 9) ∧ atI [V.int 2, V.int 9] z3 = some (.int v) := by
            have : z3 = 0 ∨ z3 = 1 := by omega
            rcases this with q | q
            · subst q; exact ⟨2, .inl rfl, rfl⟩
            · subst q; exact ⟨9, .inr rfl, rfl⟩
          obtain ⟨v, hv1, hv2⟩ := hv
          refine ⟨l, _, z3, _, rfl, rfl, SqL.of hl3, hv2, p, q, v, rfl, B3, by omega, by omega, fun z4 H4 hz40 hz41 B4 b4 => ?_⟩
          have hT4 := T2 b4 B3 hT3
          refine ⟨_, _, rfl, rfl, (by show 3 ≤ sizeLine; decide), fun t nt => ?_⟩
          have s5 := same_upd (o := .tup [.int (e1 : Nat), .int (e2 : Nat), .int (1 + z4)]) nt
          obtain ⟨bs4, h14, h24⟩ := id (hT4.same s5)
          have ntr : t ≠ r := by obtain ⟨_, z, _⟩ := hT4; exact Ne.symm (ne_of_none z nt)
          have hbl4 : bs4.length = ts.length := paired_len h24
          refine ⟨r, _, _, rfl, rfl, h14, by rw [List.length_map]; exact small1000 (by omega), ?_⟩
          refine ⟨_, _, ts ++ [(e1, e2, (1 + z4).toNat)], rfl, (B4.same s5).put nrp nrq, fun b u e hb => ?_, fun b u e hb hbr => ?_, ⟨bs4 ++ [t], ?_, paired_append (paired_mono (fun a e q => ?_) h24) (.cons ?_ .nil)⟩, fun e m => ?_, ?_, ?_⟩
          · rw [upd_ne (ne_of_none e nr)]
            exact s5 _ _ (b4 _ _ (b3 _ _ (s3 _ _ (b2 _ _ (b1 _ _ e hb) hb)) hb) hb)
          · rw [upd_ne hbr]
            exact s5 _ _ (b4 _ _ (b3 _ _ (s3 _ _ (b2 _ _ (c1 _ _ e hb hbr) hb)) hb) hb)
          · rw [upd_same, List.map_append] <;> rfl
          · rw [upd_ne (ne_of q h14 (fun z => by cases z))]
            exact q
          · rw [upd_ne ntr, upd_same]
            have : ((1 + z4).toNat : Int) = 1 + z4 := Int.toNat_of_nonneg (by omega)
            unfold tv
            rw [this]
          · rcases List.mem_append.mp m with q | q
            · exact hG e q
            · simp at q
              subst q
              exact ⟨hb.1, hb.2, show 1 ≤ (1 + z4).toNat by omega, show (1 + z4).toNat ≤ 9 by omega⟩
          · rw [List.length_append]
            show ts.length + 1 ≤ 14
            omega
          · rw [take_succ_of ee, List.map_append]
            exact hSb.append (List.Sublist.refl _)
        · exact ⟨_, _, ts, rfl, B2, b1.trans b2, fun b u e hb hbr => b2 _ _ (c1 _ _ e hb hbr) hb, hT2, hG, hL, hsk⟩
      · exact ⟨_, _, ts, rfl, B1, b1, c1, hT, hG, hL, hsk⟩
    · rintro σ H' ⟨y4, y5, ts, rfl, B1, b1, c1, hT, hG, hL, hSb⟩
      exact ⟨_, rfl, kk r H' ts nr B1 b1 hT hG hL ((hSb.trans (List.take_sublist _ _)).nodup (pairsL_nodup n h8))⟩
end
end K

namespace K
open PySem PySem.Spec PyProof.Rows L2
open Sw (T3 Dist at? relax roundOf rounds IsNext Cand IsFar nbr candL)
abbrev sNbr : Stmt := top 8
section
variable {P : Program} {w : World} {K : PySem.W.Frag} {mg : Str → Option Value} {base : Heap}
theorem scNbr : FnScope ["ties", "house", "pairs", "one", "other", "price"] ["ties", "house"] (defScope sNbr) := ⟨rfl, rfl, rfl, by decide +kernel, rfl, by decide +kernel, by decide +kernel⟩
theorem ok_nbr {f : Addr} {fd : FuncData} {k : Nat} (F : Fun K "neighbours" "neighbours" sNbr f fd) : FnOk P w K mg base CX0 (k + 1) f fd ["ties", "house"] spNbr := by
  refine F.ok scNbr (fun vs H Q E h => ?_) (fun cdv A outer s H vs Q E hr h => ?_)
  · obtain ⟨t, ts, h, rfl, _⟩ := h
    rfl
  · obtain ⟨t, ts, h, rfl, hT, hl, kk⟩ := h
    refine ⟨_, (pss_cons (ps_set (i := 2) scNbr.nd rfl (.inl rfl) (pe_lst pa_nil))
      (pss_cons (ps_for PassesOwn.never rfl (pi_list (pv 0)) (pg_tup rfl (pgs_cons (pg_name (i := 3) scNbr.nd rfl (Or.inl rfl)) (pgs_cons (pg_name (i := 4) scNbr.nd rfl (Or.inl rfl)) (pgs_cons (pg_name (i := 5) scNbr.nd rfl (Or.inl rfl)) pgs_nil))))
        (pss_cons (ps_if (pt_cmpR op_eq (pv 3) (pv 1) (nomark _))
          (pss_one (ps_expr (pe_bm PySem.F.plainAttrs_list PySem.F.slot_list_append PySem.F.type_list_append mt_append (pv 2) (pa_cons (pe_tup (pa_cons (pv 4) (pa_cons (pv 5) pa_nil))) pa_nil))))
          pss_nil)
        (pss_one (ps_if (pt_cmpR op_eq (pv 4) (pv 1) (nomark _))
          (pss_one (ps_expr (pe_bm PySem.F.plainAttrs_list PySem.F.slot_list_append PySem.F.type_list_append mt_append (pv 2) (pa_cons (pe_tup (pa_cons (pv 3) (pa_cons (pv 5) pa_nil))) pa_nil))))
          pss_nil))))
      (pss_one (ps_ret (pv 2))))), ?_⟩
    refine ⟨Nat.zero_le _, fun r nr => ?_⟩
    have s1 := same_upd (o := .lst []) nr
    obtain ⟨as, ht, hp⟩ := id hT
    have hlen := paired_len hp
    refine ⟨_, rfl, t, rfl, ⟨_, SqL.of (s1 _ _ ht)⟩, for_list (K := K) (a := t) (xs := as.map V.ref) (fun i σ H' => ∃ y3 y4 y5, σ = [some (.ref t), some (.int (h : Nat)), some (.ref r), y3, y4, y5] ∧ Same H H' ∧ NbrAt H' r (nbr (ts.take i) h))
      ⟨none, none, none, rfl, s1, ⟨[], upd_same, .nil⟩⟩ (fun i σ H' _ ⟨_, _, _, _, b, _⟩ => SqL.of (b _ _ ht)) ?_ ?_⟩
    · rintro i y σ H1 hi ⟨y3, y4, y5, rfl, s2, hN⟩
      obtain ⟨a, ea, rfl⟩ := map_ref_at hi
      obtain ⟨e, ee, he⟩ := paired_at hp i a ea
      obtain ⟨e1, e2, e3⟩ := e
      have hil : i < ts.length := (List.getElem?_eq_some_iff.mp ee).1
      have grow : ∀ {H2 : Hp} {L : List (Nat × Nat)} {u c : Nat}, Same H H2 → NbrAt H2 r L → L.length ≤ 999 → ∀ (D : Hp → Prop), (∀ H3, Same H H3 → NbrAt H3 r (L ++ [(u, c)]) → D H3) →
          ∃ bs : List Addr, H2 r = some (.lst (bs.map V.ref)) ∧ bs.length = L.length ∧ ∀ p, H2 p = none → (upd H2 p (.tup [.int (u : Nat), .int (c : Nat)])) r = some (.lst (bs.map V.ref)) ∧ D (upd (upd H2 p (.tup [.int (u : Nat), .int (c : Nat)])) r (.lst (bs.map V.ref ++ [.ref p]))) := by
        intro H2 L u c sH hL hz D hD
        obtain ⟨bs, h1, h2⟩ := hL
        refine ⟨bs, h1, paired_len h2, fun p np => ?_⟩
        have s3 := same_upd (o := .tup [.int (u : Nat), .int (c : Nat)]) np
        have npr : p ≠ r := Ne.symm (ne_of_none h1 np)
        refine ⟨s3 _ _ h1, hD _ (fun b o q => ?_) ⟨bs ++ [p], ?_, paired_append (paired_mono (fun a e q => ?_) h2) (.cons ?_ .nil)⟩⟩
        · rw [upd_ne (ne_of_none q nr)]
          exact s3 _ _ (sH _ _ q)
        · rw [upd_same, List.map_append]
          rfl
        · rw [upd_ne (ne_of q h1 (fun z => by cases z))]
          exact s3 _ _ q
        · rw [upd_ne npr]
          exact upd_same
      have hnl := Sw.nbr_len (ts.take i) h
      rw [List.length_take] at hnl
      refine ⟨a, tv (e1, e2, e3), rfl, SqT.of (s2 _ _ he), rfl, _, _, rfl, _, _, rfl, _, _, rfl, rfl, ?_⟩
      refine ⟨_, rfl, _, rfl, rfl, _, rfl, ?_⟩
      have step := Sw.nbr_snoc (ts.take i) (e1, e2, e3) h
      rw [← take_succ_of ee] at step
      -- the second half, from any row
      have half : ∀ {H2 : Hp} {L : List (Nat × Nat)}, Same H H2 → NbrAt H2 r L → L.length ≤ 999 → nbr (ts.take (i + 1)) h = L ++ (if e2 = h then [(e1, e3)] else []) → ∀ (D : Hp → Prop), (∀ H3, Same H H3 → NbrAt H3 r (nbr (ts.take (i + 1)) h) → D H3) →
          if decide (V.int (e2 : Nat) = V.int (h : Nat)) = true then ∃ bs : List Addr, H2 r = some (.lst (bs.map V.ref)) ∧ bs.length = L.length ∧ ∀ p, H2 p = none → (upd H2 p (.tup [.int (e1 : Nat), .int (e3 : Nat)])) r = some (.lst (bs.map V.ref)) ∧ D (upd (upd H2 p (.tup [.int (e1 : Nat), .int (e3 : Nat)])) r (.lst (bs.map V.ref ++ [.ref p]))) else D H2 := by
        intro H2 L sH hL hz hE D hD
        refine ite2 (fun c => ?_) (fun c => ?_)
        · have c := of_decide_eq_true c
          injection c with c
          refine grow sH hL hz D fun H3 s3 n3 => hD H3 s3 ?_
          rw [hE, if_pos (by omega)]
          exact n3
        · have c : ¬ e2 = h := fun q => c (by rw [q]; exact decide_eq_true rfl)
          refine hD H2 sH ?_
          rw [hE, if_neg c, List.append_nil]
          exact hL
      refine ite2 (fun c => ?_) (fun c => ?_)
      · have c := of_decide_eq_true c
        injection c with c
        have c : e1 = h := by omega
        rw [if_pos c] at step
        obtain ⟨bs, hb1, hb2, hb3⟩ := grow (u := e2) (c := e3) s2 hN (by omega) (fun H3 => Same H H3 ∧ NbrAt H3 r (nbr (ts.take i) h ++ [(e2, e3)])) fun H3 a b => ⟨a, b⟩
        refine ⟨_, rfl, .inl ⟨rfl, _, SqL.of hb1⟩, _, rfl, _, rfl, (by show 2 ≤ sizeLine; decide), fun p np => ?_⟩
        obtain ⟨hb4, s3, hN3⟩ := hb3 p np
        refine ⟨r, _, _, rfl, rfl, hb4, by rw [List.length_map]; exact small1000 (by omega), ?_⟩
        refine ⟨_, rfl, _, rfl, rfl, _, rfl, ?_⟩
        have hf := half s3 hN3 (by rw [List.length_append]; show _ + 1 ≤ 999; omega) (by rw [step, ← List.append_assoc]) (fun H3 => ∃ y3 y4 y5, [some (V.ref t), some (.int (h : Nat)), some (.ref r), some (.int (e1 : Nat)), some (.int (e2 : Nat)), some (.int (e3 : Nat))] = [some (V.ref t), some (.int (h : Nat)), some (.ref r), y3, y4, y5] ∧ Same H H3 ∧ NbrAt H3 r (nbr (ts.take (i + 1)) h)) fun H3 a b => ⟨_, _, _, rfl, a, b⟩
        refine ite2 (fun c2 => ?_) (fun c2 => ?_)
        · rw [if_pos c2] at hf
          obtain ⟨cs, hc1, hc2, hc3⟩ := hf
          refine ⟨_, rfl, .inl ⟨rfl, _, SqL.of hc1⟩, _, rfl, _, rfl, (by show 2 ≤ sizeLine; decide), fun p2 np2 => ?_⟩
          obtain ⟨hc4, hD⟩ := hc3 p2 np2
          exact ⟨r, _, _, rfl, rfl, hc4, by rw [List.length_map]; exact small1000 (by rw [hc2, List.length_append]; show _ + 1 ≤ 1000; omega), hD⟩
        · rw [if_neg c2] at hf
          exact hf
      · have c : ¬ e1 = h := fun q => c (by rw [q]; exact decide_eq_true rfl)
        rw [if_neg c, List.nil_append] at step
        refine ⟨_, rfl, _, rfl, rfl, _, rfl, ?_⟩
        have hf := half s2 hN (by omega) step (fun H3 => ∃ y3 y4 y5, [some (V.ref t), some (.int (h : Nat)), some (.ref r), some (.int (e1 : Nat)), some (.int (e2 : Nat)), some (.int (e3 : Nat))] = [some (V.ref t), some (.int (h : Nat)), some (.ref r), y3, y4, y5] ∧ Same H H3 ∧ NbrAt H3 r (nbr (ts.take (i + 1)) h)) fun H3 a b => ⟨_, _, _, rfl, a, b⟩
        refine ite2 (fun c2 => ?_) (fun c2 => ?_)
        · rw [if_pos c2] at hf
          obtain ⟨cs, hc1, hc2, hc3⟩ := hf
          refine ⟨_, rfl, .inl ⟨rfl, _, SqL.of hc1⟩, _, rfl, _, rfl, (by show 2 ≤ sizeLine; decide), fun p2 np2 => ?_⟩
          obtain ⟨hc4, hD⟩ := hc3 p2 np2
          exact ⟨r, _, _, rfl, rfl, hc4, by rw [List.length_map]; exact small1000 (by omega), hD⟩
        · rw [if_neg c2] at hf
          exact hf
    · rintro σ H1 ⟨y3, y4, y5, rfl, s2, hN⟩
      rw [List.length_map, hlen, List.take_length] at hN
      exact ⟨_, rfl, kk r H1 nr s2 hN⟩
end
end K

namespace K
open PySem PySem.Spec PyProof.Rows L2
open Sw (T3 Dist at? relax roundOf rounds IsNext Cand IsFar nbr candL)
abbrev sNextH : Stmt := top 11
abbrev sNexts : Stmt := top 12
section
variable {P : Program} {w : World} {K : PySem.W.Frag} {mg : Str → Option Value} {base : Heap}
theorem scNextH : FnScope ["prices", "ties", "goal", "house", "near", "price"] ["prices", "ties", "goal", "house"] (defScope sNextH) := ⟨rfl, rfl, rfl, by decide +kernel, rfl, by decide +kernel, by decide +kernel⟩
theorem min_cand {E : List T3} {d : Dist} {h : Nat} {L : List (Nat × Nat)} (hL : ∀ u c, (u, c) ∈ L ↔ (h, u, c) ∈ E) {m : Int} (hm : m ∈ (candL d h L).map (fun (u : Nat) => (u : Int))) (hl : ∀ y, y ∈ (candL d h L).map (fun (u : Nat) => (u : Int)) → m ≤ y) :
    ∃ u : Nat, m = (u : Int) ∧ Cand E d h u ∧ ∀ v, Cand E d h v → u ≤ v := by
  obtain ⟨u, hu, rfl⟩ := List.mem_map.mp hm
  refine ⟨u, rfl, (Sw.candL_mem hL u).mp hu, fun v hv => ?_⟩
  have := hl (v : Int) (List.mem_map.mpr ⟨v, (Sw.candL_mem hL v).mpr hv, rfl⟩)
  omega
theorem ok_nexth {f fN : Addr} {fd fdN : FuncData} {k : Nat} (F : Fun K "next_house" "next_house" sNextH f fd) (T : BT mg) (cneighbours : Cal P w K mg base (k + 1) "neighbours" fN fdN ["ties", "house"] spNbr) : FnOk P w K mg base CX0 (k + 2) f fd ["prices", "ties", "goal", "house"] spNextH := by
  refine F.ok scNextH (fun vs H Q E h => ?_) (fun cdv A outer s H vs Q E hr h => ?_)
  · obtain ⟨p, t, d, ts, n, g, h, rfl, _⟩ := h
    rfl
  · obtain ⟨p, t, d, ts, n, g, h, rfl, hp, hT, hl, hF, hI, hh, kk⟩ := h
    refine ⟨_, (pss_cons (ps_if (PW.pt (pw_or (pt_cmpR op_eq (pv 3) (pv 2) (nomark _)) (pw_or1 (pt_cmpR op_isN (pe_ix (r := rIxL K) ix_list (pv 0) (pv 3) (fun _ _ => rfl)) pe_non (nomark _)))))
        (pss_one (ps_ret pe_non))
        pss_nil)
      (pss_one (ps_ret (pe_callB (cr_min rfl) (by rfl) T.min (by decide +kernel) (pa_cons (pe_lc (own := [("near", 4), ("price", 5)]) (g := (gTup K 2 (gCons (gName 4) (gCons (gName 5) gNil)))) rfl scNextH.nd (by exact (pi_list (pe_call cneighbours.ok hr (by rfl) cneighbours.g cneighbours.kp cneighbours.b .nil pass0 (pa_cons (pv 1) (pa_cons (pv 3) pa_nil))))) (blkOk_by (own := [("near", 4), ("price", 5)]) (N := ["prices", "ties", "goal", "house", "near", "price"]) (sc := (defScope sNextH)) (by decide +kernel)) (fun _ _ _ _ _ => by exact (pg_tup rfl (pgs_cons (pg_name (i := 4) scNextH.nd rfl (Or.inl rfl)) (pgs_cons (pg_name (i := 5) scNextH.nd rfl (Or.inl rfl)) pgs_nil)))) (fun _ _ _ _ _ => by exact (pts_one (pt_cmpR op_eq (pe_op op_add (pe_ix (r := rIxL K) ix_list (pv 0) (pv 4) (fun _ _ => rfl)) (pv 5)) (pe_ix (r := rIxL K) ix_list (pv 0) (pv 3) (fun _ _ => rfl)) (nomark _)))) (fun _ _ _ _ _ => by exact (pv 4))) pa_nil))))), ?_⟩
    have hd := hI.len
    have hat := atI_nat (at_of (d := d) (v := h) (by omega))
    refine ⟨_, rfl, _, rfl, rfl, _, rfl, ?_⟩
    refine ite2 (fun c => ?_) (fun c => ?_)
    · have c := of_decide_eq_true c
      injection c with c
      exact kk none H (.inl (by omega)) (Same.refl H)
    · have c : h ≠ g := fun q => c (by rw [q]; exact decide_eq_true rfl)
      refine ⟨_, rfl, _, rfl, p, _, _, _, rfl, rfl, SqL.of hp, hat, rfl, _, rfl, ?_⟩
      cases eh : at? d h with
      | none =>
        refine iteT ?_
        exact kk none H (.inr eh) (Same.refl H)
      | some ch =>
        refine iteF ?_
        rw [eh] at hat
        have hL := nbr_both ts h
        have hh0 : at? d h ≠ none := by rw [eh]; exact fun z => by cases z
        refine ⟨_, rfl, _, rfl, t, ts, h, rfl, hT, hl, fun b H1 nb s1 hN => ?_⟩
        obtain ⟨bs, hb, hpb⟩ := hN
        have hbl := paired_len hpb
        have hnl := Sw.nbr_len ts h
        refine ⟨b, rfl, ⟨_, SqL.of hb⟩, fun D nD => ?_⟩
        refine lc_list (K := K) (a := b) (xs := bs.map V.ref) (fun i H' => Same H1 H' ∧ H' D = some (.lst ((candL d h ((nbr ts h).take i)).map fun u => V.int (u : Nat))))
          ⟨same_upd nD, upd_same⟩ (fun i H' _ ⟨s2, _⟩ => SqL.of (s2 _ _ hb)) ?_ ?_
        · rintro i y H2 hi ⟨s2, hD⟩
          obtain ⟨a, ea, rfl⟩ := map_ref_at hi
          obtain ⟨e, ee, he⟩ := paired_at hpb i a ea
          obtain ⟨u, c'⟩ := e
          have hmem := (hL u c').mp (List.mem_of_getElem? ee)
          obtain ⟨y, ey⟩ := Sw.near_some hI (both_sym ts) hmem hh0
          have hu : u < d.length := by rw [hd]; exact (both_lt hF _ hmem).2
          have hau := atI_nat (at_of hu)
          rw [ey] at hau
          have hp2 := s2 _ _ (s1 _ _ hp)
          refine ⟨a, [.int (u : Nat), .int (c' : Nat)], rfl, SqT.of (s2 _ _ he), rfl, _, _, rfl, _, _, rfl, rfl, rfl, ?_⟩
          refine ⟨_, rfl, _, rfl, p, _, _, _, rfl, rfl, SqL.of hp2, hau, _, rfl, _, _, rfl, rfl, _, rfl, _, rfl, p, _, _, _, rfl, rfl, SqL.of hp2, hat, rfl, _, rfl, ?_⟩
          have step := Sw.candL_snoc d h ((nbr ts h).take i) (u, c')
          rw [← take_succ_of ee] at step
          have hts : Sw.test d h (u, c') = decide (ch = y + c') := by
            unfold Sw.test
            simp only [ey, eh, Option.some.injEq]
          refine ite2 (fun c2 => ?_) (fun c2 => ?_)
          · have c2 := of_decide_eq_true c2
            injection c2 with c2
            have c2 : (y : Int) + (c' : Int) = (ch : Int) := c2
            rw [hts, if_pos (decide_eq_true (by omega))] at step
            refine ⟨_, rfl, _, hD, ?_, fun x o q => ?_, ?_⟩
            · rw [List.length_map]
              have h1 := Sw.candL_len d h ((nbr ts h).take i)
              rw [List.length_take] at h1
              exact small1000 (by omega)
            · rw [upd_ne (ne_of_none q nD)]
              exact s2 _ _ q
            · rw [upd_same, step, List.map_append]
              rfl
          · have c2 : ¬ (y : Int) + (c' : Int) = (ch : Int) := fun q => c2 (decide_eq_true (congrArg V.int q))
            rw [hts, if_neg (fun z => c2 (by have := of_decide_eq_true z; omega)), List.append_nil] at step
            exact ⟨s2, by rw [step]; exact hD⟩
        · rintro H2 ⟨s2, hD⟩
          rw [List.length_map, hbl, List.take_length] at hD
          refine ⟨D, (candL d h (nbr ts h)).map (fun (u : Nat) => (u : Int)), rfl, .inl (.inl (by rw [hD, List.map_map]; rfl)), ?_, fun m hm hmin => ?_⟩
          · obtain ⟨u, hu⟩ := Sw.cand_ex hI c eh
            rw [List.length_map]
            exact List.length_pos_of_mem ((Sw.candL_mem hL u).mpr hu)
          · obtain ⟨u, rfl, hu, hmin⟩ := min_cand hL hm hmin
            exact kk (some u) H2 ⟨c, hh0, hu, hmin⟩ (s1.trans s2)
theorem scNexts : FnScope ["many", "ties", "goal", "prices", "house"] ["many", "ties", "goal"] (defScope sNexts) := ⟨rfl, rfl, rfl, by decide +kernel, rfl, by decide +kernel, by decide +kernel⟩
theorem ok_nexts {f fN fF : Addr} {fd fdN fdF : FuncData} {k : Nat} (F : Fun K "nexts" "nexts" sNexts f fd) (T : BT mg) (cfar : Cal P w K mg base (k + 2) "far" fF fdF ["many", "ties", "goal"] spFar) (cnext_house : Cal P w K mg base (k + 2) "next_house" fN fdN ["prices", "ties", "goal", "house"] spNextH) :
    FnOk P w K mg base CX0 (k + 3) f fd ["many", "ties", "goal"] spNexts := by
  refine F.ok scNexts (fun vs H Q E h => ?_) (fun cdv A outer s H vs Q E hr h => ?_)
  · obtain ⟨n, g, t, ts, rfl, _⟩ := h
    rfl
  · obtain ⟨n, g, t, ts, rfl, hg, hn, hT, hl, hF, kk⟩ := h
    refine ⟨_, (pss_cons (ps_set (i := 3) scNexts.nd rfl (.inr rfl) (pe_call cfar.ok hr (by rfl) cfar.g cfar.kp cfar.b .nil pass0 (pa_cons (pv 0) (pa_cons (pv 1) (pa_cons (pv 2) pa_nil)))))
      (pss_one (ps_ret (pe_lc (own := [("house", 4)]) (g := (gName 4)) (tt := tYes) rfl scNexts.nd (by exact (pi_range1 (by rfl) T.range (pa_cons (pv 0) pa_nil))) (blkOk_by (own := [("house", 4)]) (N := ["many", "ties", "goal", "prices", "house"]) (sc := (defScope sNexts)) (by decide +kernel)) (fun _ _ _ _ _ => by exact (pg_name (i := 4) scNexts.nd rfl (Or.inl rfl))) (fun _ _ _ _ _ => by exact pts_nil) (fun _ _ _ _ _ => by exact (pe_call cnext_house.ok hr (by rfl) cnext_house.g cnext_house.kp cnext_house.b .nil pass0 (pa_cons (pv 3) (pa_cons (pv 1) (pa_cons (pv 2) (pa_cons (pv 4) pa_nil)))))))))), ?_⟩
    refine ⟨_, rfl, _, rfl, _, rfl, n, g, t, ts, rfl, hg, hn, hT, hF, fun p H1 np s1 hp => ?_⟩
    have hI := farD_is hF hg
    refine ⟨_, rfl, n, rfl, by omega, by omega, fun D nD => ?_⟩
    refine lc_range (lo := 0) (n := n) (fun i H' => Same H1 H' ∧ ∃ xs : List (Option Nat), H' D = some (.lst (xs.map ov)) ∧ xs.length = i ∧ ∀ h < i, IsNext (both ts) (farD n ts g) g h (at? xs h))
      ⟨same_upd nD, [], upd_same, rfl, fun h z => absurd z (Nat.not_lt_zero _)⟩ ?_ ?_
    · rintro i H2 hi ⟨s2, xs, hD, hxl, hx⟩
      refine ⟨rfl, ?_⟩
      refine ⟨_, rfl, _, rfl, _, rfl, _, rfl, p, t, farD n ts g, ts, n, g, i, by rw [Int.zero_add]; rfl, s2 _ _ hp, (hT.same s1).same s2, hl, hF, hI, hi, fun x H3 hx3 s3 => ?_⟩
      refine ⟨_, s3 _ _ hD, by rw [List.length_map]; exact small1000 (by omega), fun b o q => ?_, xs ++ [x], ?_, by rw [List.length_append, hxl]; rfl, fun h hh => ?_⟩
      · rw [upd_ne (ne_of_none q nD)]
        exact s3 _ _ (s2 _ _ q)
      · rw [upd_same, List.map_append]
        rfl
      · unfold at?
        by_cases hlt : h < i
        · rw [List.getElem?_append_left (by omega)]
          exact hx h hlt
        · have : h = i := by omega
          subst this
          rw [List.getElem?_append_right (by omega), hxl, Nat.sub_self]
          exact hx3
    · rintro H2 ⟨s2, xs, hD, hxl, hx⟩
      exact kk D H2 (s1.free nD) (s1.trans s2) ⟨xs, hD, hxl, hx⟩
end
end K

namespace K
open PySem PySem.Spec PyProof.Rows L2
abbrev sSlipI : Stmt := inClass (top 1) 0
section
variable {P : Program} {w : World} {K : PySem.W.Frag} {mg : Str → Option Value} {base : Heap}
theorem scSlipI : FnScope ["self", "word", "why"] ["self", "word", "why"] (defScope sSlipI) := ⟨rfl, rfl, rfl, by decide +kernel, rfl, by decide +kernel, by decide +kernel⟩
theorem ok_slipI {f CS fS : Addr} {fd : FuncData} {k : Nat} {dvs : List V} (F : FunD K "__init__" "SlipError.__init__" (defArgs sSlipI) (defBody sSlipI) (defScope sSlipI) dvs [] f fd) (T : SlipT K mg CS fS) : FnOk P w K mg base CX0 (k + 1) f fd ["self", "word", "why"] (spSlip K) := by
  refine F.ok scSlipI (fun vs H Q E h => ?_) (fun cdv A outer s H vs Q E hr h => ?_)
  · obtain ⟨a, C, wd, y, rfl, _⟩ := h
    rfl
  · obtain ⟨a, C, wd, y, rfl, oex, hw, ha, q⟩ := h
    refine ⟨_, PSs.nox (pss_cons (ps_expr (pe_veinit (by rfl) T.mV T.vV (pa_cons (pv 0) (pa_cons (pv 2) pa_nil)))) (pss_one (ps_ost (pv 0) (pv 1)))), ?_⟩
    refine ⟨_, rfl, _, rfl, a, C, [.str y], rfl, (by show 1 ≤ 1000; decide), oex, ha, ?_⟩
    exact ⟨_, rfl, _, rfl, a, C, rfl, oex, hw, .inl ⟨ha, fun dx n ne => q dx n ne⟩⟩
end
end K

namespace K
open PySem PySem.Spec PyProof.Rows L2
section
variable {P : Program} {w : World} {K : PySem.W.Frag} {mg : Str → Option Value} {base : Heap}
theorem ok_slipIH {f CS fS : Addr} {fd : FuncData} {k : Nat} {dvs : List V} (F : FunD K "__init__" "SlipError.__init__" (defArgs sSlipI) (defBody sSlipI) (defScope sSlipI) dvs [] f fd) (T : SlipT K mg CS fS) : L2H.FnH P w K mg base CX0 (k + 1) f fd ["self", "word", "why"] (spSlip K) := by
  refine F.okH scSlipI (fun vs H Q E h => ?_) (fun cdv A outer s H vs Q E p hp hr h => ?_)
  · obtain ⟨a, C, wd, y, rfl, _⟩ := h
    rfl
  · obtain ⟨a, C, wd, y, rfl, oex, hw, ha, q⟩ := h
    refine ⟨_, pss_cons (ps_expr (pe_veinit (by rfl) T.mV T.vV (pa_cons (pv 0) (pa_cons (pv 2) pa_nil)))) (pss_one (ps_ost (pv 0) (pv 1))), ?_⟩
    refine ⟨_, rfl, _, rfl, a, C, [.str y], rfl, (by show 1 ≤ 1000; decide), oex, ha, ?_⟩
    exact ⟨_, rfl, _, rfl, a, C, rfl, oex, hw, .inl ⟨ha, fun dx n ne => q dx n ne⟩⟩
end
end K

namespace K
open PySem PySem.Spec PyProof.Rows L2
abbrev sNoHouseI : Stmt := inClass (top 2) 0
section
variable {P : Program} {w : World} {K : PySem.W.Frag} {mg : Str → Option Value} {base : Heap}
theorem scNoHouseI : FnScope ["self", "house"] ["self", "house"] (defScope sNoHouseI) := ⟨rfl, rfl, rfl, by decide +kernel, rfl, by decide +kernel, by decide +kernel⟩
theorem ok_nohouseI {f CS fS : Addr} {fd fdS : FuncData} {k : Nat} (F : Fun K "__init__" "NoHouse.__init__" sNoHouseI f fd) (T : SlipT K mg CS fS) (GS : FnOk P w K mg base CX0 (k + 1) fS fdS ["self", "word", "why"] (spSlip K)) (bS : Binds K fdS ["self", "word", "why"] []) : FnOk P w K mg base CX0 (k + 2) f fd ["self", "house"] (spIn1 K "house" "nohouse" askInt gotSame) := by
  refine F.ok scNoHouseI (fun vs H Q E h => ?_) (fun cdv A outer s H vs Q E hr h => ?_)
  · obtain ⟨a, C, v, rfl, _⟩ := h
    rfl
  · obtain ⟨a, C, v, rfl, hask, oex, hw, hf, ha, q⟩ := h
    refine ⟨_, pss_cons (ps_expr (pe_clsf (pe_glob (v := .ref CS) (by rfl) T.g rfl) T.r T.at_ GS hr T.kp bS pass0 (pa_cons (pv 0) (pa_cons pe_str (pa_cons (pe_joined (.cons pe_str (.cons (pe_fmt (pv 1)) .nil))) pa_nil))))) (pss_one (ps_ost (pv 0) (pv 1))), ?_⟩
    obtain ⟨i, rfl, hi⟩ := hask
    refine ⟨rfl, _, rfl, _, rfl, by decide +kernel, _, rfl, .inr ⟨i, rfl, hi, _, rfl, join2_le (by decide +kernel) (Nat.le_trans (PyProof.Rows.int_text_len_1921 hi) (by decide)), ?_⟩⟩
    refine ⟨a, C, _, _, rfl, oex, hw, ha, fun dx nd ne => ?_⟩
    refine ⟨_, rfl, _, rfl, a, C, rfl, oex, hf, .inr ⟨dx, _, upd_same, by rw [upd_ne ne]; exact upd_same, (by show 1 ≤ 900; decide), ?_⟩⟩
    refine q dx _ _ nd ne (fun b o e hb => ?_) ?_ upd_same rfl
    · rw [upd_ne (ne_of_none e nd), upd_ne hb, upd_ne (ne_of_none e nd)]
      exact e
    · rw [upd_ne (Ne.symm ne)]
      exact upd_same
end
end K

namespace K
open PySem PySem.Spec PyProof.Rows L2
abbrev sNoTieI : Stmt := inClass (top 3) 0
section
variable {P : Program} {w : World} {K : PySem.W.Frag} {mg : Str → Option Value} {base : Heap}
theorem scNoTieI : FnScope ["self", "one", "other"] ["self", "one", "other"] (defScope sNoTieI) := ⟨rfl, rfl, rfl, by decide +kernel, rfl, by decide +kernel, by decide +kernel⟩
theorem join4_le {c m e n : Str} (hc : (Str.empty ++ c).length ≤ 1000) (hm : m.length ≤ 2000) (he : e.length ≤ 1000) (hn : n.length ≤ 2000) : ((((Str.empty ++ c) ++ m) ++ e) ++ n).length ≤ sizeLine := by
  rw [strLen_append, strLen_append, strLen_append, sizeLine_eq]
  omega
theorem ok_notieI {f CS fS : Addr} {fd fdS : FuncData} {k : Nat} (F : Fun K "__init__" "NoTie.__init__" sNoTieI f fd) (T : SlipT K mg CS fS) (GS : FnOk P w K mg base CX0 (k + 1) fS fdS ["self", "word", "why"] (spSlip K)) (bS : Binds K fdS ["self", "word", "why"] []) : FnOk P w K mg base CX0 (k + 2) f fd ["self", "one", "other"] (spIn2 K "one" "other" "notie") := by
  refine F.ok scNoTieI (fun vs H Q E h => ?_) (fun cdv A outer s H vs Q E hr h => ?_)
  · obtain ⟨a, C, i, j, rfl, _⟩ := h
    rfl
  · obtain ⟨a, C, i, j, rfl, hi, hj, oex, hw, hf, hg, ha, q⟩ := h
    refine ⟨_, pss_cons (ps_expr (pe_clsf (pe_glob (v := .ref CS) (by rfl) T.g rfl) T.r T.at_ GS hr T.kp bS pass0 (pa_cons (pv 0) (pa_cons pe_str (pa_cons (pe_joined (.cons pe_str (.cons (pe_fmt (pv 1)) (.cons pe_str (.cons (pe_fmt (pv 2)) .nil))))) pa_nil))))) (pss_cons (ps_ost (pv 0) (pv 1)) (pss_one (ps_ost (pv 0) (pv 2)))), ?_⟩
    refine ⟨rfl, _, rfl, _, rfl, by decide +kernel, _, rfl, .inr ⟨i, rfl, hi, _, rfl, join2_le (by decide +kernel) (Nat.le_trans (PyProof.Rows.int_text_len_1921 hi) (by decide)), ?_⟩⟩
    refine ⟨_, rfl, join3_le (by decide +kernel) (Nat.le_trans (PyProof.Rows.int_text_len_1921 hi) (by decide)) (by decide +kernel), _, rfl, .inr ⟨j, rfl, hj, _, rfl, join4_le (by decide +kernel) (Nat.le_trans (PyProof.Rows.int_text_len_1921 hi) (by decide)) (by decide +kernel) (Nat.le_trans (PyProof.Rows.int_text_len_1921 hj) (by decide)), ?_⟩⟩
    refine ⟨a, C, _, _, rfl, oex, hw, ha, fun dx nd ne => ?_⟩
    refine ⟨_, rfl, _, rfl, a, C, rfl, oex, hf, .inr ⟨dx, _, upd_same, by rw [upd_ne ne]; exact upd_same, (by show 1 ≤ 900; decide), ?_⟩⟩
    refine ⟨_, rfl, _, rfl, a, C, rfl, oex, hg, .inr ⟨dx, _, by rw [upd_ne (Ne.symm ne)]; exact upd_same, upd_same, (by show 2 ≤ 900; decide), ?_⟩⟩
    refine q dx _ nd ne (fun b o e hb => ?_) ?_ upd_same
    · rw [upd_ne (ne_of_none e nd), upd_ne (ne_of_none e nd), upd_ne hb, upd_ne (ne_of_none e nd)]
      exact e
    · rw [upd_ne (Ne.symm ne), upd_ne (Ne.symm ne)]
      exact upd_same
end
end K

namespace K
open PySem PySem.Spec PyProof.Rows L2
abbrev sNoWayI : Stmt := inClass (top 4) 0
section
variable {P : Program} {w : World} {K : PySem.W.Frag} {mg : Str → Option Value} {base : Heap}
theorem scNoWayI : FnScope ["self", "lot"] ["self", "lot"] (defScope sNoWayI) := ⟨rfl, rfl, rfl, by decide +kernel, rfl, by decide +kernel, by decide +kernel⟩
theorem ok_nowayI {f CS fS : Addr} {fd fdS : FuncData} {k : Nat} (F : Fun K "__init__" "NoWay.__init__" sNoWayI f fd) (T : SlipT K mg CS fS) (GS : FnOk P w K mg base CX0 (k + 1) fS fdS ["self", "word", "why"] (spSlip K)) (bS : Binds K fdS ["self", "word", "why"] []) (ml : mg "list" = none) : FnOk P w K mg base CX0 (k + 2) f fd ["self", "lot"] (spIn1 K "lot" "noway" (askLot K) gotLot) := by
  refine F.ok scNoWayI (fun vs H Q E h => ?_) (fun cdv A outer s H vs Q E hr h => ?_)
  · obtain ⟨a, C, v, rfl, _⟩ := h
    rfl
  · obtain ⟨a, C, v, rfl, hask, oex, hw, hf, ha, q⟩ := h
    refine ⟨_, pss_cons (ps_expr (pe_clsf (pe_glob (v := .ref CS) (by rfl) T.g rfl) T.r T.at_ GS hr T.kp bS pass0 (pa_cons (pv 0) (pa_cons pe_str (pa_cons (pe_joined (.cons pe_str (.cons (pe_fmtL hr (pv 1)) .nil))) pa_nil))))) (pss_one (ps_ost (pv 0) (pe_callTy call_list_of (by rfl) ml (by decide +kernel) (pa_cons (pv 1) pa_nil)))), ?_⟩
    obtain ⟨l, ns, rfl, hl, hz, hd⟩ := hask
    refine ⟨rfl, _, rfl, _, rfl, by decide +kernel, _, rfl, l, ns, rfl, SqL.of hl, hz, hd, fun m hm => ⟨m, rfl, join2_le (by decide +kernel) (by omega), ?_⟩⟩
    refine ⟨a, C, _, _, rfl, oex, hw, ha, fun dx nd ne => ?_⟩
    have hla : l ≠ a := ext_ne_lst ha hl
    have hl2 : (upd (upd H dx (exd dx [("word", .str "noway")])) a (exo a C (some dx))) l = some (.lst (ns.map V.int)) := by
      rw [upd_ne hla, upd_ne (ne_of_none hl nd)]
      exact hl
    refine ⟨_, rfl, l, _, rfl, .inl (SqL.of hl2), fun l2 nl2 => ?_⟩
    have h2a : l2 ≠ a := fun z => by
      subst z
      rw [upd_same] at nl2
      cases nl2
    have h2d : l2 ≠ dx := fun z => by
      subst z
      rw [upd_ne ne, upd_same] at nl2
      cases nl2
    refine ⟨_, rfl, a, C, rfl, oex, hf, .inr ⟨dx, _, by rw [upd_ne (Ne.symm h2a)]; exact upd_same, by rw [upd_ne (Ne.symm h2d), upd_ne ne]; exact upd_same, (by show 1 ≤ 900; decide), ?_⟩⟩
    have nll : l ≠ l2 := ne_of_none hl2 nl2
    have hld : l ≠ dx := ne_of_none hl nd
    refine q dx (.ref l2) _ nd ne (fun b o e hb => ?_) ?_ upd_same ⟨l, l2, ns.map V.int, rfl, rfl, ?_, ?_, nll, by rw [upd_ne h2a, upd_ne h2d] at nl2; exact nl2⟩
    · have e2 : (upd (upd H dx (exd dx [("word", .str "noway")])) a (exo a C (some dx))) b = some o := by
        rw [upd_ne hb, upd_ne (ne_of_none e nd)]
        exact e
      rw [upd_ne (ne_of_none e nd), upd_ne (ne_of_none e2 nl2)]
      exact e2
    · rw [upd_ne (Ne.symm ne), upd_ne (Ne.symm h2a)]
      exact upd_same
    · rw [upd_ne hld, upd_ne nll]
      exact hl2
    · rw [upd_ne h2d]
      exact upd_same
end
end K

namespace K
open PySem PySem.Spec PyProof.Rows L2
abbrev sLoneI : Stmt := inClass (top 5) 0
section
variable {P : Program} {w : World} {K : PySem.W.Frag} {mg : Str → Option Value} {base : Heap}
theorem scLoneI : FnScope ["self", "lot"] ["self", "lot"] (defScope sLoneI) := ⟨rfl, rfl, rfl, by decide +kernel, rfl, by decide +kernel, by decide +kernel⟩
theorem ok_loneIH {f CS fS : Addr} {fd fdS : FuncData} {k : Nat} (F : Fun K "__init__" "Lone.__init__" sLoneI f fd) (T : SlipT K mg CS fS) (GS : L2H.FnH P w K mg base CX0 (k + 1) fS fdS ["self", "word", "why"] (spSlip K)) (bS : Binds K fdS ["self", "word", "why"] []) (ml : mg "list" = none)   : L2H.FnH P w K mg base CX0 (k + 2) f fd ["self", "lot"] (spIn1 K "lot" "lone" (askLot K) gotLot) := by
  refine F.okH scLoneI (fun vs H Q E h => ?_) (fun cdv A outer s H vs Q E hp0 hp hr h => ?_)
  · obtain ⟨a, C, v, rfl, _⟩ := h
    rfl
  · obtain ⟨a, C, v, rfl, hask, oex, hw, hf, ha, q⟩ := h
    refine ⟨_, pss_cons (ps_expr (pe_clsfH (E := E0) (pe_glob (v := .ref CS) (by rfl) T.g rfl) T.r T.at_ GS hr (hotC_cxH hp) T.kp bS pass0H (pa_cons (pv 0) (pa_cons pe_str (pa_cons (pe_joined (.cons pe_str (.cons (pe_fmtLu (L2H.RoomH.u2 hr) (pv 1)) .nil))) pa_nil))))) (pss_one (ps_ost (pv 0) (pe_callTy call_list_of (by rfl) ml (by decide +kernel) (pa_cons (pv 1) pa_nil)))), ?_⟩
    obtain ⟨l, ns, rfl, hl, hz, hd⟩ := hask
    refine ⟨rfl, _, rfl, _, rfl, by decide +kernel, _, rfl, l, ns, rfl, SqL.of hl, hz, hd, fun m hm => ⟨m, rfl, join2_le (by decide +kernel) (by omega), ?_⟩⟩
    refine ⟨a, C, _, _, rfl, oex, hw, ha, fun dx nd ne => ?_⟩
    have hla : l ≠ a := ext_ne_lst ha hl
    have hl2 : (upd (upd H dx (exd dx [("word", .str "lone")])) a (exo a C (some dx))) l = some (.lst (ns.map V.int)) := by
      rw [upd_ne hla, upd_ne (ne_of_none hl nd)]
      exact hl
    refine ⟨_, rfl, l, _, rfl, .inl (SqL.of hl2), fun l2 nl2 => ?_⟩
    have h2a : l2 ≠ a := fun z => by
      subst z
      rw [upd_same] at nl2
      cases nl2
    have h2d : l2 ≠ dx := fun z => by
      subst z
      rw [upd_ne ne, upd_same] at nl2
      cases nl2
    refine ⟨_, rfl, a, C, rfl, oex, hf, .inr ⟨dx, _, by rw [upd_ne (Ne.symm h2a)]; exact upd_same, by rw [upd_ne (Ne.symm h2d), upd_ne ne]; exact upd_same, (by show 1 ≤ 900; decide), ?_⟩⟩
    have nll : l ≠ l2 := ne_of_none hl2 nl2
    have hld : l ≠ dx := ne_of_none hl nd
    refine q dx (.ref l2) _ nd ne (fun b o e hb => ?_) ?_ upd_same ⟨l, l2, ns.map V.int, rfl, rfl, ?_, ?_, nll, by rw [upd_ne h2a, upd_ne h2d] at nl2; exact nl2⟩
    · have e2 : (upd (upd H dx (exd dx [("word", .str "lone")])) a (exo a C (some dx))) b = some o := by
        rw [upd_ne hb, upd_ne (ne_of_none e nd)]
        exact e
      rw [upd_ne (ne_of_none e nd), upd_ne (ne_of_none e2 nl2)]
      exact e2
    · rw [upd_ne (Ne.symm ne), upd_ne (Ne.symm h2a)]
      exact upd_same
    · rw [upd_ne hld, upd_ne nll]
      exact hl2
    · rw [upd_ne h2d]
      exact upd_same
end
end K

namespace K
open PySem PySem.Spec PyProof.Rows L2
open Sw (T3 Dist at? relax roundOf rounds IsNext Cand IsFar nbr candL WayTo lotOf)
abbrev sCheck2 : Stmt := sCheck
section
variable {P : Program} {w : World} {K : PySem.W.Frag} {mg : Str → Option Value} {base : Heap}
theorem ok_checkN {f CH fI : Addr} {fd fdI : FuncData} {k : Nat} (F : Fun K "check_house" "check_house" sCheck f fd) (T : ExcC P w K mg base (k + 2) "NoHouse" CH fI fdI ["self", "house"] (spIn1 K "house" "nohouse" askInt gotSame)) (hfld : PySem.W.findIn K (.ref CH) "house" = some none) : FnOk P w K mg base (L2N.CX P w) (k + 4) f fd ["many", "house"] (spCheckX CH) := by
  refine F.okN scCheck (fun vs H Q E h => ?_) (fun cdv A outer s H vs Q E hr h => ?_)
  · obtain ⟨n, h, rfl, _⟩ := h
    rfl
  · obtain ⟨n, h, rfl, hh, hy, hno⟩ := h
    have hr3 : Room (k + 3) _ := hr
    refine ⟨_, pss_one (ps_if (PW.pt (pw_or (pt_cmpR op_lt (pv 1) pe_int (nomark _)) (pw_or1 (pt_cmpR op_ge (pv 1) (pv 0) (nomark _)))))
      (pss_one (L2N.ps_raise rfl (L2N.takes_of rfl rfl rfl rfl) (pmkN_oex T.t.oex T.t.iC T.t.tI T.ok hr3 T.b .nil pass0 (by rfl) T.t.g (pa_cons (pv 1) pa_nil)))) pss_nil), ?_⟩
    have go : ¬ (0 ≤ h ∧ h < n) → tMkO CH (spIn1 K "house" "nohouse" askInt gotSame) [] (tCons (tVar 1) tNil) (L2.start ["many", "house"] [.int (n : Nat), .int h]) H fun cls d H' => E cls d H' := fun c => by
      refine ⟨_, rfl, (by show 1 ≤ 1000; decide), fun a na => ?_⟩
      have hX := hno c
      refine ⟨a, CH, _, rfl, ⟨h, rfl, hh⟩, T.t.oex, T.t.word, hfld, upd_same, fun dx v' H2 nd ne k2 ha2 hd2 hv => ⟨rfl, dx, _, ha2, hd2, ?_, ?_⟩⟩
      · rw [upd_ne ne] at nd
        exact nd
      · have hv : v' = .int h := hv
        subst hv
        have nd0 : H dx = none := by rw [upd_ne ne] at nd; exact nd
        exact hX dx _ nd0 (raised_same na (fun b o e hb => k2 b o (by rw [upd_ne hb]; exact e) hb) nd0) upd_same
    refine ⟨_, rfl, _, _, rfl, rfl, _, rfl, ?_⟩
    refine ite2 (fun c => ?_) (fun c => ?_)
    · have c := of_decide_eq_true c
      exact iteT (go (by omega))
    · have c : ¬ h < 0 := fun z => c (decide_eq_true z)
      refine ⟨_, rfl, _, rfl, _, _, rfl, rfl, _, rfl, ?_⟩
      refine ite2 (fun c2 => ?_) (fun c2 => ?_)
      · have c2 := of_decide_eq_true c2
        exact go (by omega)
      · have c2 : ¬ (n : Int) ≤ h := fun z => c2 (decide_eq_true z)
        exact hy (by omega)
end
end K

namespace K
open PySem PySem.Spec PyProof.Rows L2
open Sw (T3 Dist at? relax roundOf rounds IsNext Cand IsFar nbr candL WayTo lotOf)
abbrev sReach : Stmt := top 13
abbrev sLeast : Stmt := top 14
theorem lot_succ (i : Nat) (d : Dist) : lotOf (i + 1) d = lotOf i d ++ (if (at? d i).isSome = true then [i] else []) := by
  unfold lotOf
  rw [List.range_succ, List.filter_append]
  congr 1
  simp only [List.filter_cons, List.filter_nil]
theorem lot_len (i : Nat) (d : Dist) : (lotOf i d).length ≤ i := by
  unfold lotOf
  have := List.length_filter_le (fun h => (at? d h).isSome) (List.range i)
  rwa [List.length_range] at this
section
variable {P : Program} {w : World} {K : PySem.W.Frag} {mg : Str → Option Value} {base : Heap}
theorem scReach : FnScope ["many", "ties", "start", "prices", "house"] ["many", "ties", "start"] (defScope sReach) := ⟨rfl, rfl, rfl, by decide +kernel, rfl, by decide +kernel, by decide +kernel⟩
theorem ok_reach {f fF : Addr} {fd fdF : FuncData} {k : Nat} (F : Fun K "reached" "reached" sReach f fd) (T : BT mg) (cfar : Cal P w K mg base (k + 2) "far" fF fdF ["many", "ties", "goal"] spFar) : FnOk P w K mg base CX0 (k + 3) f fd ["many", "ties", "start"] spReach := by
  refine F.ok scReach (fun vs H Q E h => ?_) (fun cdv A outer s H vs Q E hr h => ?_)
  · obtain ⟨n, g, t, ts, rfl, _⟩ := h
    rfl
  · obtain ⟨n, g, t, ts, rfl, hg, hn, hT, hF, kk⟩ := h
    refine ⟨_, (pss_cons (ps_set (i := 3) scReach.nd rfl (.inr rfl) (pe_call cfar.ok hr (by rfl) cfar.g cfar.kp cfar.b .nil pass0 (pa_cons (pv 0) (pa_cons (pv 1) (pa_cons (pv 2) pa_nil)))))
      (pss_one (ps_ret (pe_lc (own := [("house", 4)]) (g := (gName 4)) rfl scReach.nd (by exact (pi_range1 (by rfl) T.range (pa_cons (pv 0) pa_nil))) (blkOk_by (own := [("house", 4)]) (N := ["many", "ties", "start", "prices", "house"]) (sc := (defScope sReach)) (by decide +kernel)) (fun _ _ _ _ _ => by exact (pg_name (i := 4) scReach.nd rfl (Or.inl rfl))) (fun _ _ _ _ _ => by exact (pts_one (pt_cmpR op_notN (pe_ix (r := rIxL K) ix_list (pv 3) (pv 4) (fun _ _ => rfl)) pe_non (nomark _)))) (fun _ _ _ _ _ => by exact (pv 4)))))), ?_⟩
    refine ⟨_, rfl, _, rfl, _, rfl, n, g, t, ts, rfl, hg, hn, hT, hF, fun p H1 np s1 hp => ?_⟩
    have hI := farD_is hF hg
    have hd := hI.len
    generalize farD n ts g = d at hI hd hp kk
    refine ⟨_, rfl, n, rfl, by omega, by omega, fun D nD => ?_⟩
    refine lc_range (lo := 0) (n := n) (fun i H' => Same H1 H' ∧ H' D = some (.lst ((lotOf i d).map fun h => V.int (h : Nat)))) ⟨same_upd nD, upd_same⟩ ?_ ?_
    · rintro i H2 hi ⟨s2, hD⟩
      refine ⟨rfl, ?_⟩
      have ha := atI_nat (at_of (d := d) (v := i) (by omega))
      rw [show (i : Int) = 0 + (i : Int) by omega] at ha
      refine ⟨_, rfl, _, rfl, p, _, _, _, rfl, rfl, SqL.of (s2 _ _ hp), ha, rfl, _, rfl, ?_⟩
      have step := lot_succ i d
      cases ei : at? d i with
      | none =>
        refine iteF ?_
        rw [ei] at step
        have step : lotOf (i + 1) d = lotOf i d := by rw [step]; simp
        exact ⟨s2, by rw [step]; exact hD⟩
      | some c =>
        refine iteT ?_
        rw [ei] at step
        have step : lotOf (i + 1) d = lotOf i d ++ [i] := by rw [step]; simp
        have hl := lot_len i d
        refine ⟨_, rfl, _, hD, by rw [List.length_map]; exact small1000 (by omega), fun b o q => ?_, ?_⟩
        · rw [upd_ne (ne_of_none q nD)]
          exact s2 _ _ q
        · rw [upd_same, step, List.map_append, Int.zero_add]
          rfl
    · rintro H2 ⟨s2, hD⟩
      exact kk D H2 (s1.free nD) (s1.trans s2) hD
theorem scLeast : FnScope ["many", "ties", "start", "goal", "price", "onward", "way"] ["many", "ties", "start", "goal"] (defScope sLeast) := ⟨rfl, rfl, rfl, by decide +kernel, rfl, by decide +kernel, by decide +kernel⟩
theorem ok_leastN {f CH CW fC fF fN fR fI : Addr} {fd fdC fdF fdN fdR fdI : FuncData} {k : Nat} (F : Fun K "least_way" "least_way" sLeast f fd) (T : BT mg) (ccheck_house : CalN P w K mg base (k + 5) "check_house" fC fdC ["many", "house"] (spCheckX CH)) (cfar : Cal P w K mg base (k + 5) "far" fF fdF ["many", "ties", "goal"] spFar)
    (cnexts : Cal P w K mg base (k + 5) "nexts" fN fdN ["many", "ties", "goal"] spNexts) (creached : Cal P w K mg base (k + 5) "reached" fR fdR ["many", "ties", "start"] spReach) (TW : ExcC P w K mg base (k + 4) "NoWay" CW fI fdI ["self", "lot"] (spIn1 K "lot" "noway" (askLot K) gotLot)) (hfld : PySem.W.findIn K (.ref CW) "lot" = some none) :
    FnOk P w K mg base (L2N.CX P w) (k + 6) f fd ["many", "ties", "start", "goal"] (spLeastX CH CW) := by
  refine F.okN scLeast (fun vs H Q E h => ?_) (fun cdv A outer s H vs Q E hr h => ?_)
  · obtain ⟨n, s, g, t, ts, rfl, _⟩ := h
    rfl
  · obtain ⟨n, si, gi, t, ts, rfl, hn, hsl, hgl, hT, hl, hF, hP, kS, kG, kN, kW⟩ := h
    refine ⟨_, (pss_cons (ps_expr (pe_call ccheck_house.ok hr (by rfl) ccheck_house.g ccheck_house.kp ccheck_house.b .nil (L2N.passes_call (L2N.takes_of rfl rfl rfl rfl) (fun _ _ _ _ h => h)) (pa_cons (pv 0) (pa_cons (pv 2) pa_nil))))
      (pss_cons (ps_expr (pe_call ccheck_house.ok hr (by rfl) ccheck_house.g ccheck_house.kp ccheck_house.b .nil (L2N.passes_call (L2N.takes_of rfl rfl rfl rfl) (fun _ _ _ _ h => h)) (pa_cons (pv 0) (pa_cons (pv 3) pa_nil))))
      (pss_cons (ps_set (i := 4) scLeast.nd rfl (.inl rfl) (pe_ix (r := rIxL K) ix_list (pe_call cfar.ok hr (by rfl) cfar.g cfar.kp cfar.b .nil pass0 (pa_cons (pv 0) (pa_cons (pv 1) (pa_cons (pv 3) pa_nil)))) (pv 2) (fun _ _ => rfl)))
      (pss_cons (ps_if (pt_cmpR op_isN (pv 4) pe_non (nomark _))
        (pss_one (L2N.ps_raise rfl (L2N.takes_of rfl rfl rfl rfl) (pmkN_oex TW.t.oex TW.t.iC TW.t.tI TW.ok hr TW.b .nil pass0 (by rfl) TW.t.g (pa_cons (pe_call creached.ok hr (by rfl) creached.g creached.kp creached.b .nil pass0 (pa_cons (pv 0) (pa_cons (pv 1) (pa_cons (pv 2) pa_nil)))) pa_nil))))
        pss_nil)
      (PSs.nox (pss_cons (ps_set (i := 5) scLeast.nd rfl (.inl rfl) (pe_call cnexts.ok hr (by rfl) cnexts.g cnexts.kp cnexts.b .nil pass0 (pa_cons (pv 0) (pa_cons (pv 1) (pa_cons (pv 3) pa_nil)))))
      (pss_cons (ps_set (i := 6) scLeast.nd rfl (.inl rfl) (pe_lst (pa_cons (pv 2) pa_nil)))
      (pss_cons (ps_while PassesOwn.never (pt_cmpR op_ne (pe_ix (r := rIxL K) ix_list (pv 6) (pe_un un_neg pe_int) (fun _ _ => rfl)) (pv 3) (nomark _))
        (pss_one (ps_expr (pe_bm PySem.F.plainAttrs_list PySem.F.slot_list_append PySem.F.type_list_append mt_append (pv 6) (pa_cons (pe_ix (r := rIxL K) ix_list (pv 5) (pe_ix (r := rIxL K) ix_list (pv 6) (pe_un un_neg pe_int) (fun _ _ => rfl)) (fun _ _ => rfl)) pa_nil)))))
      (pss_one (ps_ret (pe_tup (pa_cons (pv 4) (pa_cons (pe_callTy call_tuple_of (by rfl) T.tuple (by decide +kernel) (pa_cons (pv 6) pa_nil)) pa_nil))))))))))))), ?_⟩
    refine ⟨_, rfl, _, rfl, n, si, rfl, hsl, fun hs => ?_, fun hs => kS hs⟩
    refine ⟨_, rfl, _, rfl, n, gi, rfl, hgl, fun hg => ?_, fun hg => kG hs hg⟩
    obtain ⟨s', es⟩ : ∃ s' : Nat, si = (s' : Nat) := ⟨si.toNat, by omega⟩
    obtain ⟨g', eg⟩ : ∃ g' : Nat, gi = (g' : Nat) := ⟨gi.toNat, by omega⟩
    subst es
    subst eg
    have hs' : s' < n := by omega
    have hg' : g' < n := by omega
    have hI := farD_is hF hg'
    have hd := hI.len
    refine ⟨_, rfl, _, rfl, _, rfl, n, g', t, ts, rfl, hg', by omega, hT, hF, fun p H1 np s1 hp => ?_⟩
    have ha := atI_nat (at_of (d := farD n ts g') (v := s') (by omega))
    refine ⟨_, rfl, p, _, _, _, rfl, rfl, SqL.of hp, ha, ?_⟩
    refine ⟨_, rfl, rfl, _, rfl, ?_⟩
    cases ep : at? (farD n ts g') s' with
    | none =>
      refine iteT ?_
      have kN := kN s' g' rfl rfl hs' hg' ep
      refine ⟨_, rfl, _, rfl, _, rfl, n, s', t, ts, rfl, hs', by omega, hT.same s1, hF, fun l H2 nl s2 hl2 => ?_⟩
      refine ⟨(by show 1 ≤ 1000; decide), fun a na => ?_⟩
      have hla : l ≠ a := ne_of_none hl2 na
      have hll := lot_len n (farD n ts s')
      refine ⟨a, CW, _, rfl, ⟨l, (lotOf n (farD n ts s')).map (fun (h : Nat) => (h : Int)), rfl, ?_, by rw [List.length_map]; omega, fun z hz => ?_⟩, TW.t.oex, TW.t.word, hfld, upd_same, fun dx v' H3 nd ne k3 ha3 hd3 hv => ⟨rfl, dx, _, ha3, hd3, ?_, ?_⟩⟩
      · rw [upd_ne hla, hl2, List.map_map]
        rfl
      · obtain ⟨h, hm, rfl⟩ := List.mem_map.mp hz
        have : h < n := by
          unfold lotOf at hm
          exact List.mem_range.mp (List.mem_filter.mp hm).1
        omega
      · rw [upd_ne ne] at nd
        exact nd
      · obtain ⟨l1, l2, xs, e1, e2, hx1, hx2, hne, hnew⟩ := hv
        cases e1
        subst e2
        have nd2 : H2 dx = none := by rw [upd_ne ne] at nd; exact nd
        have sm : Same H (upd (del H3 a) dx (.xd [("lot", .ref l2), ("word", .str "noway")])) := (s1.trans s2).trans (raised_same na (fun b o e hb => k3 b o (by rw [upd_ne hb]; exact e) hb) nd2)
        have hl3 : H3 l = some (.lst ((lotOf n (farD n ts s')).map fun h => V.int (h : Nat))) := k3 l _ (by rw [upd_ne hla]; exact hl2) hla
        rw [hx1] at hl3
        injection hl3 with hl3
        injection hl3 with hl3
        have h2a : l2 ≠ a := ext_ne_lst ha3 hx2
        have h2d : l2 ≠ dx := fun z => by
          subst z
          rw [hd3] at hx2
          cases hx2
        refine kN dx l2 _ ((s1.trans s2).free nd2) ?_ sm upd_same ?_
        · rw [upd_ne h2a] at hnew
          exact (s1.trans s2).free hnew
        · rw [upd_ne h2d, del_ne h2a, hx2, hl3]
    | some c =>
      refine iteF ?_
      rw [ep] at ha
      have hbE : ∀ e ∈ both ts, e.1 < n := fun e m => (both_lt hF e m).1
      have hbP : ∀ a b c, (a, b, c) ∈ both ts → 1 ≤ c ∧ c ≤ 9 := fun a b c m => by rcases (both_mem ts _).mp m with z | z <;> exact hP _ z
      have hc9 := Sw.far_small hI hbE (fun e m => (hbP e.1 e.2.1 e.2.2 m).2) ep
      have hc100 : c ≤ 81 := by omega
      refine ⟨_, rfl, _, rfl, _, rfl, n, g', t, ts, rfl, hg', by omega, hT.same s1, hl, hF, fun o H2 no s2 hN => ?_⟩
      obtain ⟨xs, ho, hxl, hx⟩ := hN
      have kW := fun way hw hl => kW s' g' c way rfl rfl hs' hg' ep hw hl
      generalize farD n ts g' = d at hI hd hx kW ep
      refine ⟨_, rfl, (by show 1 ≤ sizeLine; decide), fun wa nw => ?_⟩
      have s3 := same_upd (o := .lst [.int (s' : Nat)]) nw
      refine ⟨fun m σ H' => ∃ (pre : List Nat) (x : Nat), σ = [some (.int (n : Nat)), some (.ref t), some (.int (s' : Nat)), some (.int (g' : Nat)), some (.int (c : Nat)), some (.ref o), some (.ref wa)] ∧ Same H2 H' ∧ H' wa = some (.lst ((pre ++ [x]).map fun h => V.int (h : Nat))) ∧ x < n ∧ at? d x = some m ∧ pre.length + m ≤ c ∧ ∀ l, WayTo (both ts) d g' x l → WayTo (both ts) d g' s' (pre ++ l),
        ⟨c, [], s', rfl, s3, upd_same, hs', ep, by simp, fun l z => z⟩, ?_⟩
      rintro m σ H3 ⟨pre, x, rfl, s4, hw, hxn, hxm, hlen, hway⟩
      have hlast : atI ((pre ++ [x]).map fun h => V.int (h : Nat)) (-1) = some (.int (x : Nat)) := by
        rw [List.map_append]
        exact atI_last _ _
      refine ⟨_, rfl, 1, rfl, wa, _, _, _, rfl, rfl, SqL.of hw, hlast, _, rfl, rfl, _, rfl, ?_⟩
      by_cases hxg : x = g'
      · subst hxg
        refine iteNS rfl ?_
        refine ⟨_, rfl, _, rfl, wa, _, rfl, .inl ⟨SqL.of hw, fun tw ntw => ⟨(by show 2 ≤ sizeLine; decide), fun pr npr => ?_⟩⟩⟩
        have s5 := same_upd (o := .tup ((pre ++ [x]).map fun h => V.int (h : Nat))) ntw
        have s6 := same_upd (o := .tup [.int (c : Nat), .ref tw]) npr
        have sall : Same H (upd (upd H3 tw (.tup ((pre ++ [x]).map fun h => V.int (h : Nat)))) pr (.tup [.int (c : Nat), .ref tw])) := s1.trans (s2.trans (s4.trans (s5.trans s6)))
        refine kW (pre ++ [x]) (hway [x] .here) (by rw [List.length_append]; show pre.length + 1 ≤ 100; omega) pr _ ((s1.trans (s2.trans s4)).free (s5.free npr)) sall ⟨tw, upd_same, ?_⟩
        exact s6 _ _ upd_same
      · have hne : ¬ V.int (x : Nat) = V.int (g' : Nat) := fun z => hxg (by injection z with z; have : (x : Int) = (g' : Int) := z; omega)
        rw [decide_eq_false hne]
        refine iteT ?_
        have hnx := hx x hxn
        obtain ⟨u, hu⟩ : ∃ u, at? xs x = some u := by
          cases e : at? xs x with
          | none =>
            rw [e] at hnx
            rcases hnx with z | z
            · exact absurd z hxg
            · rw [hxm] at z; cases z
          | some u => exact ⟨u, rfl⟩
        rw [hu] at hnx
        obtain ⟨c', y, hm1, hy, hz⟩ := id hnx.2.2.1
        rw [hxm] at hz
        injection hz with hz
        have hc1 := hbP _ _ _ hm1
        have hun : u < n := (both_lt hF _ hm1).2
        have hao := atI_nat (at_of (d := xs) (v := x) (by omega))
        rw [hu] at hao
        refine ⟨fun σ' H' => ∃ m', m' < m ∧ ∃ (pre : List Nat) (x : Nat), σ' = [some (.int (n : Nat)), some (.ref t), some (.int (s' : Nat)), some (.int (g' : Nat)), some (.int (c : Nat)), some (.ref o), some (.ref wa)] ∧ Same H2 H' ∧ H' wa = some (.lst ((pre ++ [x]).map fun h => V.int (h : Nat))) ∧ x < n ∧ at? d x = some m' ∧ pre.length + m' ≤ c ∧ ∀ l, WayTo (both ts) d g' x l → WayTo (both ts) d g' s' (pre ++ l), fun σ' H' z => z, ?_⟩
        refine ⟨_, rfl, .inl ⟨rfl, _, SqL.of hw⟩, _, rfl, _, rfl, 1, rfl, wa, _, _, _, rfl, rfl, SqL.of hw, hlast, o, _, _, _, rfl, rfl, SqL.of (s4 _ _ ho), hao, wa, _, _, rfl, rfl, hw, ?_, ?_⟩
        · rw [List.length_map, List.length_append]
          exact small1000 (by show pre.length + 1 ≤ 1000; omega)
        · refine ⟨y, by omega, pre ++ [x], u, rfl, fun b oo q => ?_, ?_, hun, hy, ?_, fun l hl => ?_⟩
          · rw [upd_ne (ne_of_none q nw)]
            exact s4 _ _ q
          · rw [upd_same, List.map_append (l₁ := pre ++ [x])]
            rfl
          · rw [List.length_append]
            show pre.length + 1 + y ≤ c
            omega
          · rw [List.append_assoc]
            exact hway _ (.step hnx hl)
end
end K

namespace K
open PySem PySem.Spec PyProof.Rows L2
open Sw (T3 Dist at? relax roundOf rounds IsNext Cand IsFar nbr candL WayTo lotOf)
abbrev sWithout : Stmt := top 15
abbrev sRound : Stmt := top 16
section
variable {P : Program} {w : World} {K : PySem.W.Frag} {mg : Str → Option Value} {base : Heap}
theorem scWithout : FnScope ["ties", "one", "other", "tie"] ["ties", "one", "other"] (defScope sWithout) := ⟨rfl, rfl, rfl, by decide +kernel, rfl, by decide +kernel, by decide +kernel⟩
theorem room65 {k : Nat} {A : Around} (r : Room k A) : A.units + 65 < cLine := by have := r.un; omega
theorem lft_one (e : T3) (u v : Nat) : lft [e] u v = if ((e.1 = u ∧ e.2.1 = v) ∨ (e.2.1 = u ∧ e.1 = v)) then [] else [e] := by
  obtain ⟨a, b, c⟩ := e
  unfold lft
  by_cases h : ((a = u ∧ b = v) ∨ (b = u ∧ a = v))
  · rw [if_pos h]
    rcases h with ⟨h1, h2⟩ | ⟨h1, h2⟩ <;> simp [h1, h2]
  · rw [if_neg h]
    have : (!((a == u && b == v) || (b == u && a == v))) = true := by
      simp only [Bool.not_eq_true', Bool.or_eq_false_iff, Bool.and_eq_false_iff, beq_eq_false_iff_ne]
      constructor
      · by_cases h1 : a = u
        · exact .inr fun h2 => h (.inl ⟨h1, h2⟩)
        · exact .inl h1
      · by_cases h1 : b = u
        · exact .inr fun h2 => h (.inr ⟨h1, h2⟩)
        · exact .inl h1
    exact List.filter_cons_of_pos this
theorem lft_snoc (ts : List T3) (e : T3) (u v : Nat) : lft (ts ++ [e]) u v = if ((e.1 = u ∧ e.2.1 = v) ∨ (e.2.1 = u ∧ e.1 = v)) then lft ts u v else lft ts u v ++ [e] := by
  have h1 := lft_one e u v
  have : lft (ts ++ [e]) u v = lft ts u v ++ lft [e] u v := by unfold lft; rw [List.filter_append]
  rw [this, h1]
  split
  · rw [List.append_nil]
  · rfl
theorem ok_without {f : Addr} {fd : FuncData} {k : Nat} (F : Fun K "without" "without" sWithout f fd) : FnOk P w K mg base CX0 (k + 1) f fd ["ties", "one", "other"] spWithout := by
  refine F.ok scWithout (fun vs H Q E h => ?_) (fun cdv A outer s H vs Q E hr h => ?_)
  · obtain ⟨u, v, t, ts, rfl, _⟩ := h
    rfl
  · obtain ⟨u, v, t, ts, rfl, hT, hl, kk⟩ := h
    refine ⟨_, (pss_one (ps_ret (pe_lc (own := [("tie", 3)]) (g := (gName 3)) rfl scWithout.nd (by exact (pi_list (pv 0))) (blkOk_by (own := [("tie", 3)]) (N := ["ties", "one", "other", "tie"]) (sc := (defScope sWithout)) (by decide +kernel)) (fun _ _ _ _ _ => by exact (pg_name (i := 3) scWithout.nd rfl (Or.inl rfl))) (fun _ _ _ _ _ => by exact (pts_one (PW.pt (pw_and (pt_cmpR (r := rNeD K) (op_neD hr.units) (pe_tup (pa_cons (pe_ix (r := rIxT K) ix_tup (pv 3) pe_int (fun _ _ => rfl)) (pa_cons (pe_ix (r := rIxT K) ix_tup (pv 3) pe_int (fun _ _ => rfl)) pa_nil))) (pe_tup (pa_cons (pv 1) (pa_cons (pv 2) pa_nil))) (nomark _)) (pw_and1 (pt_cmpR (r := rNeD K) (op_neD hr.units) (pe_tup (pa_cons (pe_ix (r := rIxT K) ix_tup (pv 3) pe_int (fun _ _ => rfl)) (pa_cons (pe_ix (r := rIxT K) ix_tup (pv 3) pe_int (fun _ _ => rfl)) pa_nil))) (pe_tup (pa_cons (pv 1) (pa_cons (pv 2) pa_nil))) (nomark _))))))) (fun _ _ _ _ _ => by exact (pv 3))))), ?_⟩
    obtain ⟨as, ht, hp⟩ := id hT
    have hal := paired_len hp
    refine ⟨_, rfl, t, rfl, ⟨_, SqL.of ht⟩, fun D nD => ?_⟩
    refine lc_list (K := K) (a := t) (xs := as.map V.ref) (fun i H' => Same H H' ∧ ∃ bs : List Addr, H' D = some (.lst (bs.map V.ref)) ∧ Paired (fun a e => H a = some (.tup (tv e))) bs (lft (ts.take i) u v) ∧ bs.length ≤ i) ⟨same_upd nD, [], upd_same, by rw [List.take_zero]; exact .nil, Nat.le_refl _⟩ (fun i H' _ z => SqL.of (z.1 _ _ ht)) ?_ ?_
    · rintro i x H2 hx ⟨s2, bs, hD, hB, hbl⟩
      rw [List.getElem?_map] at hx
      obtain ⟨a, ha, rfl⟩ := Option.map_eq_some_iff.mp hx
      obtain ⟨e, he, hat⟩ := paired_at hp i a ha
      have hi : i < ts.length := (List.getElem?_eq_some_iff.mp he).1
      have step : lft (ts.take (i + 1)) u v = if ((e.1 = u ∧ e.2.1 = v) ∨ (e.2.1 = u ∧ e.1 = v)) then lft (ts.take i) u v else lft (ts.take i) u v ++ [e] := by
        rw [List.take_succ, he]
        exact lft_snoc _ _ _ _
      have hat2 := s2 _ _ hat
      refine ⟨rfl, ?_⟩
      refine ⟨_, rfl, a, _, 0, _, rfl, rfl, SqT.of hat2, rfl, _, rfl, a, _, 1, _, rfl, rfl, SqT.of hat2, rfl, (by show 2 ≤ sizeLine; decide), fun p1 np1 => ?_⟩
      have u1 := same_upd (o := .tup [.int (e.1 : Nat), .int (e.2.1 : Nat)]) np1
      refine ⟨_, rfl, _, rfl, (by show 2 ≤ sizeLine; decide), fun p2 np2 => ?_⟩
      have u2 := same_upd (o := .tup [.int (u : Nat), .int (v : Nat)]) np2
      refine ⟨pairD e.1 e.2.1, pairD u v, dp_pair (u2 _ _ upd_same), dp_pair upd_same, pair_shaped _ _, pair_shaped _ _, _, rfl, ?_⟩
      rw [pair_eqv]
      have sA : Same H2 _ := u1.trans u2
      have stay : ∀ {Hx : Hp}, Same H2 Hx → ((e.1 = u ∧ e.2.1 = v) ∨ (e.2.1 = u ∧ e.1 = v)) → Same H Hx ∧ ∃ bs : List Addr, Hx D = some (.lst (bs.map V.ref)) ∧ Paired (fun a e => H a = some (.tup (tv e))) bs (lft (ts.take (i + 1)) u v) ∧ bs.length ≤ i + 1 := fun {Hx} sx h => ⟨s2.trans sx, bs, sx _ _ hD, by rw [step, if_pos h]; exact hB, by omega⟩
      by_cases h1 : ((e.1 : Int) = u ∧ (e.2.1 : Int) = v)
      · rw [decide_eq_true h1]
        exact stay sA (.inl ⟨by omega, by omega⟩)
      · rw [decide_eq_false h1]
        refine ⟨_, rfl, a, _, 1, _, rfl, rfl, SqT.of (sA _ _ hat2), rfl, _, rfl, a, _, 0, _, rfl, rfl, SqT.of (sA _ _ hat2), rfl, (by show 2 ≤ sizeLine; decide), fun p3 np3 => ?_⟩
        have u3 := same_upd (o := .tup [.int (e.2.1 : Nat), .int (e.1 : Nat)]) np3
        refine ⟨_, rfl, _, rfl, (by show 2 ≤ sizeLine; decide), fun p4 np4 => ?_⟩
        have u4 := same_upd (o := .tup [.int (u : Nat), .int (v : Nat)]) np4
        refine ⟨pairD e.2.1 e.1, pairD u v, dp_pair (u4 _ _ upd_same), dp_pair upd_same, pair_shaped _ _, pair_shaped _ _, _, rfl, ?_⟩
        rw [pair_eqv]
        have sB : Same H2 _ := sA.trans (u3.trans u4)
        by_cases h2 : ((e.2.1 : Int) = u ∧ (e.1 : Int) = v)
        · rw [decide_eq_true h2]
          exact stay sB (.inr ⟨by omega, by omega⟩)
        · rw [decide_eq_false h2]
          refine ⟨_, rfl, _, sB _ _ hD, by rw [List.length_map]; exact small1000 (by omega), ?_, bs ++ [a], ?_, ?_, by rw [List.length_append]; show bs.length + 1 ≤ i + 1; omega⟩
          · exact fun b o q => by
              rw [upd_ne (ne_of_none q nD)]
              exact sB _ _ (s2 _ _ q)
          · rw [upd_same, List.map_append]
            rfl
          · rw [step, if_neg (by omega)]
            exact paired_append hB (.cons hat .nil)
    · rintro H2 ⟨s2, bs, hD, hB, hbl⟩
      rw [List.length_map, hal, List.take_length] at hB
      exact kk D H2 nD s2 ⟨bs, hD, paired_mono (fun a e q => s2 _ _ q) hB⟩
end
end K

namespace K
open PySem PySem.Spec PyProof.Rows L2
open Sw (T3 Dist at? relax roundOf rounds IsNext Cand IsFar nbr candL WayTo lotOf)
section
variable {P : Program} {w : World} {K : PySem.W.Frag} {mg : Str → Option Value} {base : Heap}
theorem scRound : FnScope ["many", "ties", "one", "other", "gone"] ["many", "ties", "one", "other"] (defScope sRound) := ⟨rfl, rfl, rfl, by decide +kernel, rfl, by decide +kernel, by decide +kernel⟩
theorem ok_round {f CH CT CW CL fC fL fW fIT fIW fIL : Addr} {fd fdC fdL fdW fdIT fdIL : FuncData} {k : Nat} (F : Fun K "round_way" "round_way" sRound f fd) (ccheck_house : CalX P w K mg base (k + 6) "check_house" fC fdC ["many", "house"] (spCheckX CH))
    (cleast_way : CalN P w K mg base (k + 6) "least_way" fL fdL ["many", "ties", "start", "goal"] (spLeastX CH CW)) (cwithout : Cal P w K mg base (k + 6) "without" fW fdW ["ties", "one", "other"] spWithout) (TT : ExcC P w K mg base (k + 5) "NoTie" CT fIT fdIT ["self", "one", "other"] (spIn2 K "one" "other" "notie"))
    (TL : ExcH P w K mg base (k + 5) "Lone" CL fIL fdIL ["self", "lot"] (spIn1 K "lot" "lone" (askLot K) gotLot)) (TW : ExcT K mg "NoWay" CW fIW) (fTo : PySem.W.findIn K (.ref CT) "one" = some none) (fTt : PySem.W.findIn K (.ref CT) "other" = some none) (fW : PySem.W.findIn K (.ref CW) "lot" = some none) (fLl : PySem.W.findIn K (.ref CL) "lot" = some none) (eWW : PySem.W.exmOne K (.ref CW) (.ref CW) = some true) :
    FnOk P w K mg base (L2.CX P w) (k + 7) f fd ["many", "ties", "one", "other"] (spRoundX CH CT CL) := by
  refine F.okX scRound (fun vs H Q E h => ?_) (fun cdv A outer s H vs Q E hr h => ?_)
  · obtain ⟨n, s, g, t, ts, rfl, _⟩ := h
    rfl
  · obtain ⟨n, si, gi, t, ts, rfl, hn, hsl, hgl, hT, hl, hF, hP, kS, kG, kT, kN, kW⟩ := h
    refine ⟨_, pss_cons (ps_expr (pe_call ccheck_house.ok hr (by rfl) ccheck_house.g ccheck_house.kp ccheck_house.b .nil (passes_call (takes_of rfl rfl rfl rfl) (fun _ _ _ _ h => h)) (pa_cons (pv 0) (pa_cons (pv 2) pa_nil))))
      (pss_cons (ps_expr (pe_call ccheck_house.ok hr (by rfl) ccheck_house.g ccheck_house.kp ccheck_house.b .nil (passes_call (takes_of rfl rfl rfl rfl) (fun _ _ _ _ h => h)) (pa_cons (pv 0) (pa_cons (pv 3) pa_nil))))
      (pss_cons (ps_if (pt_cmpR op_eq (pv 2) (pv 3) (nomark _))
        (pss_one (ps_raise rfl (takes_of rfl rfl rfl rfl) (pmk_oex TT.t.oex TT.t.iC TT.t.tI TT.ok hr TT.b .nil pass0 (by rfl) TT.t.g (pa_cons (pv 2) (pa_cons (pv 3) pa_nil)))))
        pss_nil)
      (pss_one (L2H.ps_try_asX (i := 4) (tb := fun W => tRet (tCallS (spLeastX CH CW) (WE W) (tCons (tVar 0) (tCons (tCall spWithout [] E0 (tCons (tVar 1) (tCons (tVar 2) (tCons (tVar 3) tNil)))) (tCons (tVar 2) (tCons (tVar 3) tNil))))))
        (ts := fun a cls d => fun _ σ H => tMkO CL (spIn1 K "lot" "lone" (askLot K) gotLot) [] (tCons (tXf a cls d CW "lot" (tVar 4)) tNil) σ H fun cls d H' => E cls d H')
        (Wout := fun cls d _ H => E cls d H) rfl rfl scRound.nd rfl rfl ⟨rfl, by decide, Or.inl TW.g⟩ (takes_of rfl rfl rfl rfl)
        (fun W pn xe tk _ => pss_one (ps_ret (by exact (pe_callS cleast_way.ok hr rfl cleast_way.g cleast_way.kp cleast_way.b (fun σ => L2N.passAt tk σ) (by exact (pa_cons (pv 0) (pa_cons (pe_call cwithout.ok hr (by rfl) cwithout.g cwithout.kp cwithout.b .nil pass0 (pa_cons (pv 1) (pa_cons (pv 2) (pa_cons (pv 3) pa_nil)))) (pa_cons (pv 2) (pa_cons (pv 3) pa_nil)))))))))
        (fun a oe cls d pn xe hz hf tkS hot => pss_one (by exact (L2H.ps_raiseHN hot tkS (L2H.pmk5_oexH TL.t.oex TL.t.iC TL.t.tI TL.ok (L2H.roomH_mark hr _) hot TL.b pass0 (by rfl) TL.t.g (pa_cons (PE.nox (pe_xf TW.xf fW hz.zc hf (pv 4))) pa_nil))))))))), ?_⟩
    refine ⟨_, rfl, _, rfl, n, si, rfl, hsl, fun hs => ?_, fun hs => kS hs⟩
    refine ⟨_, rfl, _, rfl, n, gi, rfl, hgl, fun hg => ?_, fun hg => kG hs hg⟩
    obtain ⟨s', es⟩ : ∃ s' : Nat, si = (s' : Nat) := ⟨si.toNat, by omega⟩
    obtain ⟨g', eg⟩ : ∃ g' : Nat, gi = (g' : Nat) := ⟨gi.toNat, by omega⟩
    subst es
    subst eg
    have hs' : s' < n := by omega
    have hg' : g' < n := by omega
    refine ⟨_, rfl, _, rfl, rfl, _, rfl, ?_⟩
    by_cases hsg : s' = g'
    · subst hsg
      rw [decide_eq_true rfl]
      refine iteT ?_
      have kT := kT hs rfl
      refine ⟨_, rfl, _, rfl, (by show 2 ≤ 1000; decide), fun a na => ?_⟩
      refine ⟨a, CT, _, _, rfl, hsl, hsl, TT.t.oex, TT.t.word, fTo, fTt, upd_same, fun dx H2 nd ne k2 ha2 hd2 => ⟨rfl, dx, _, ha2, hd2, ?_, ?_⟩⟩
      · rw [upd_ne ne] at nd
        exact nd
      · have nd0 : H dx = none := by rw [upd_ne ne] at nd; exact nd
        exact kT dx _ nd0 (raised_same na (fun b o e hb => k2 b o (by rw [upd_ne hb]; exact e) hb) nd0) upd_same
    · have hne : ¬ V.int (s' : Nat) = V.int (g' : Nat) := fun z => hsg (by injection z with z; have : (s' : Int) = (g' : Int) := z; omega)
      rw [decide_eq_false hne]
      refine iteF ?_
      refine ⟨_, rfl, _, rfl, _, rfl, _, rfl, s', g', t, ts, rfl, hT, hl, fun p H1 np s1 hL => ?_⟩
      refine ⟨_, rfl, _, rfl, n, (s' : Nat), (g' : Nat), p, lft ts s' g', rfl, hn, hsl, hgl, hL, Nat.le_trans (lft_len _ _ _) hl, lft_fits hF, fun e m => hP e (lft_sub e m), fun z => absurd hs z, fun _ z => absurd hg z, fun s2 g2 es eg _ _ ep d l H2 nd nl s2' hd hl2 => ?_, fun s2 g2 c way es eg _ _ ep hw hwl p2 H2 np2 s2' hpw => ?_⟩
      · have es : s2 = s' := by omega
        have eg : g2 = g' := by omega
        subst es
        subst eg
        have kN := kN s2 g2 rfl rfl hs' hg' hsg ep
        refine ⟨true, eWW, fun _ a0 na0 => ?_, fun z => by cases z⟩
        refine ⟨_, rfl, rfl, rfl, d, _, _, rfl, hd, rfl, (by show 1 ≤ 1000; decide), fun a na => ?_⟩
        have hla : l ≠ a := ne_of_none hl2 na
        have hll := lot_len n (farD n (lft ts s2 g2) s2)
        refine ⟨a, CL, _, rfl, ⟨l, (lotOf n (farD n (lft ts s2 g2) s2)).map (fun (h : Nat) => (h : Int)), rfl, ?_, by rw [List.length_map]; omega, fun z hz => ?_⟩, TL.t.oex, TL.t.word, fLl, upd_same, fun dx v' H3 nd3 ne k3 ha3 hd3 hv => ⟨rfl, dx, _, ha3, hd3, ?_, ?_⟩⟩
        · rw [upd_ne hla, hl2, List.map_map]
          rfl
        · obtain ⟨h, hm, rfl⟩ := List.mem_map.mp hz
          have : h < n := by
            unfold lotOf at hm
            exact List.mem_range.mp (List.mem_filter.mp hm).1
          omega
        · rw [upd_ne ne] at nd3
          exact nd3
        · obtain ⟨l1, l2, xs, e1, e2, hx1, hx2, hne', hnew⟩ := hv
          cases e1
          subst e2
          have nd2 : H2 dx = none := by rw [upd_ne ne] at nd3; exact nd3
          have s12 : Same H H2 := s1.trans s2'
          have sm : Same H (upd (del H3 a) dx (.xd [("lot", .ref l2), ("word", .str "lone")])) := s12.trans (raised_same na (fun b o e hb => k3 b o (by rw [upd_ne hb]; exact e) hb) nd2)
          have hl3 : H3 l = some (.lst ((lotOf n (farD n (lft ts s2 g2) s2)).map fun h => V.int (h : Nat))) := k3 l _ (by rw [upd_ne hla]; exact hl2) hla
          rw [hx1] at hl3
          injection hl3 with hl3
          injection hl3 with hl3
          have h2a : l2 ≠ a := ext_ne_lst ha3 hx2
          have h2d : l2 ≠ dx := fun z => by
            subst z
            rw [hd3] at hx2
            cases hx2
          refine kN dx l2 _ (s12.free nd2) ?_ sm upd_same ?_
          · rw [upd_ne h2a] at hnew
            exact s12.free hnew
          · rw [upd_ne h2d, del_ne h2a, hx2, hl3]
      · have es : s2 = s' := by omega
        have eg : g2 = g' := by omega
        subst es
        subst eg
        exact kW s2 g2 c way rfl rfl hs' hg' hsg ep hw hwl p2 H2 (s1.free np2) (s1.trans s2') hpw
end
end K


namespace K
open PySem PySem.Spec PyProof.Rows L2
open Sw (T3 Dist at? relax roundOf rounds IsNext Cand IsFar nbr candL WayTo lotOf)
abbrev sRoundL : Stmt := top 22
abbrev sWayGood : Stmt := top 23
theorem eqv_flats {H : Hp} {a b : Addr} {xs : List V} {m : Nat} (h1 : H a = some (.lst xs)) (h2 : H b = some (.lst xs)) (hf : ∀ v ∈ xs, flat v = true) (hl : xs.length ≤ 1000) : Eqv (m + 2) H (.ref a) (.ref b) := by
  refine .inr ⟨a, b, _, _, rfl, rfl, .inl ⟨h1, h2⟩, rfl, hl, fun i u v hu hv => ?_⟩
  rw [hu] at hv
  cases hv
  exact .inl ⟨rfl, hf _ (List.mem_of_getElem? hu)⟩
theorem eqv_flatt {H : Hp} {a b : Addr} {xs : List V} {m : Nat} (h1 : H a = some (.tup xs)) (h2 : H b = some (.tup xs)) (hf : ∀ v ∈ xs, flat v = true) (hl : xs.length ≤ 1000) : Eqv (m + 2) H (.ref a) (.ref b) := by
  refine .inr ⟨a, b, _, _, rfl, rfl, .inr ⟨h1, h2⟩, rfl, hl, fun i u v hu hv => ?_⟩
  rw [hu] at hv
  cases hv
  exact .inl ⟨rfl, hf _ (List.mem_of_getElem? hu)⟩
theorem eqv_pair {H : Hp} {a b : Addr} {x u v : V} {m : Nat} (h1 : H a = some (.tup [x, u])) (h2 : H b = some (.tup [x, v])) (hx : flat x = true) (h : Eqv (m + 1) H u v) : Eqv (m + 2) H (.ref a) (.ref b) := by
  refine .inr ⟨a, b, _, _, rfl, rfl, .inr ⟨h1, h2⟩, rfl, by show 2 ≤ 1000; decide, fun i y z hy hz => ?_⟩
  match i, hy, hz with
  | 0, hy, hz => cases hy; cases hz; exact .inl ⟨rfl, hx⟩
  | 1, hy, hz => cases hy; cases hz; exact h
  | i + 2, hy, hz => simp at hy
theorem flat_ints (l : List Nat) : ∀ v ∈ l.map (fun h => V.int (h : Nat)), flat v = true := fun v m => by
  obtain ⟨h, _, rfl⟩ := List.mem_map.mp m
  rfl
theorem log_small {i : Int} (h : i.natAbs ≤ 100) : i.natAbs.log2 < 1920 := Nat.lt_of_le_of_lt (Nat.log2_le_self _) (by omega)
theorem dp_intsAll {K : PySem.W.Frag} {H : Hp} : ∀ l : List Int, DpAll K H (l.map V.int) (l.map PyData.int)
  | [] => .nil
  | h :: l => .cons (.int _) (dp_intsAll l)
theorem dp_ints {K : PySem.W.Frag} {H : Hp} {u : Addr} {us : List Int} (h : SqL K H u (us.map V.int)) : Dp K H (.ref u) (.list (us.map PyData.int)) := .lst h (dp_intsAll us)
theorem lay_ints : ∀ us : List Int, PyData.canLayAll0 (us.map PyData.int) = true
  | [] => by simp [PyData.canLayAll0]
  | e :: us => by simp [PyData.canLayAll0, PyData.canLay0, lay_ints us]
theorem depth_ints : ∀ us : List Int, PyData.depthAll (us.map PyData.int) ≤ 1
  | [] => by simp [PyData.depthAll]
  | e :: us => by
    have ih := depth_ints us
    have h1 : (PyData.int e).depth ≤ 1 := by simp [PyData.depth]
    simp only [List.map_cons, PyData.depthAll]
    omega
theorem shaped_ints (us : List Int) : SeqAt.shaped (.list (us.map PyData.int)) = true := by
  unfold SeqAt.shaped
  have h3 : (PyData.list (us.map PyData.int)).canLay0 = true := by simpa [PyData.canLay0] using lay_ints us
  have h4 : (PyData.list (us.map PyData.int)).depth ≤ 64 := by
    have e : (PyData.list (us.map PyData.int)).depth = PyData.depthAll (us.map PyData.int) + 1 := by simp [PyData.depth, Nat.add_comm]
    have := depth_ints us
    omega
  rw [h3, decide_eq_true h4]
  rfl
theorem eqvAll_ints : ∀ xs ys : List Int, PyData.eqvAll (xs.map PyData.int) (ys.map PyData.int) = decide (xs = ys)
  | [], [] => by simp [PyData.eqvAll]
  | [], y :: ys => by simp [PyData.eqvAll]
  | x :: xs, [] => by simp [PyData.eqvAll]
  | x :: xs, y :: ys => by
    have ih := eqvAll_ints xs ys
    simp only [List.map_cons, PyData.eqvAll, PyData.eqv, ih]
    by_cases h1 : x = y <;> by_cases h2 : xs = ys <;> simp [h1, h2]
theorem eqv_ints (xs ys : List Int) : PyData.eqv (.list (xs.map PyData.int)) (.list (ys.map PyData.int)) = decide (xs = ys) := by
  have := eqvAll_ints xs ys
  simpa [PyData.eqv] using this
def sort2 (a b : Nat) : List Int := [((min a b : Nat) : Int), ((max a b : Nat) : Int)]
theorem sort2_of {a b : Nat} {ys : List Int} (p : ys.Perm [(a : Int), (b : Int)]) (h : ys.Pairwise (· ≤ ·)) : ys = sort2 a b := by
  have q : (sort2 a b).Perm [(a : Int), (b : Int)] := by
    unfold sort2
    by_cases c : a ≤ b
    · rw [Nat.min_eq_left c, Nat.max_eq_right c]
    · rw [Nat.min_eq_right (by omega), Nat.max_eq_left (by omega)]
      exact List.Perm.swap _ _ _
  refine (p.trans q.symm).eq_of_pairwise (fun a b _ _ h1 h2 => Int.le_antisymm h1 h2) h ?_
  unfold sort2
  refine List.pairwise_pair.mpr ?_
  omega
theorem sort2_eq {a b u v : Nat} (h : sort2 a b = sort2 u v) : (a = u ∧ b = v) ∨ (a = v ∧ b = u) := by
  unfold sort2 at h
  injection h with h1 h2
  injection h2 with h2 h3
  omega
theorem cut_tail (x : V) (r : List V) : cutV (x :: r) (some 1) none = r := by
  unfold cutV
  have e : HT.sIx (x :: r).length 0 (some 1) = 1 := by
    show (if (1 : Int) < 0 then ((1 : Int) + ((x :: r).length : Int)).toNat else min (1 : Int).toNat (x :: r).length) = 1
    rw [if_neg (by decide), List.length_cons]
    show min 1 (r.length + 1) = 1
    omega
  rw [e, HT.sIx_none, List.drop_one, List.tail_cons, List.length_cons, Nat.add_sub_cancel, List.take_length]
theorem cut_two (e : T3) : cutV (tv e) none (some 2) = [((e.1 : Nat) : Int), ((e.2.1 : Nat) : Int)].map V.int := rfl
theorem at_last {xs : List V} {v : V} (h : xs[xs.length - 1]? = some v) (h0 : 0 < xs.length) : atI xs (-1) = some v := by
  unfold atI ixN
  rw [if_neg (by decide), if_pos (by omega)]
  have e : ((-1 : Int) + (xs.length : Int)).toNat = xs.length - 1 := by omega
  rw [e]
  exact h
def spRoundL : Sp := fun vs H Q _ => ∃ (n s g : Nat) (t : Addr) (ts : List T3), vs = [.int (n : Nat), .ref t, .int (s : Nat), .int (g : Nat)] ∧ n ≤ 8 ∧ s < n ∧ g < n ∧ s ≠ g ∧ TiesAt H t ts ∧ ts.length ≤ 400 ∧ Good n ts ∧
  (at? (farD n (lft ts s g) g) s = none → ∀ p l H', H p = none → H l = none → Same H H' → H' p = some (.tup [.non, .ref l]) → H' l = some (.lst ((lotOf n (farD n (lft ts s g) s)).map fun h => V.int (h : Nat))) → Q (.ref p) H') ∧
  (∀ (c : Nat) (way : List Nat), at? (farD n (lft ts s g) g) s = some c → WayTo (both (lft ts s g)) (farD n (lft ts s g) g) g s way → way.length ≤ 100 → ∀ p w H', H p = none → Same H H' → H' p = some (.tup [.ref w, .non]) → PriceWay H' w c way → Q (.ref p) H')
def spWayGood : Sp := fun vs H Q _ => ∃ (n u v c : Nat) (t wa : Addr) (ts : List T3) (way : List Nat), vs = [.ref t, .int (u : Nat), .int (v : Nat), .int (c : Nat), .ref wa] ∧ TiesAt H t ts ∧ ts.length ≤ 400 ∧ Good n ts ∧ (ts.map pr).Nodup ∧ u < n ∧ v < n ∧ u ≠ v ∧ H wa = some (.tup (way.map fun h => V.int (h : Nat))) ∧
  WayTo (both (lft ts u v)) (farD n (lft ts u v) v) v u way ∧ at? (farD n (lft ts u v) v) u = some c ∧ way.length ≤ 100 ∧ ∀ H', Same H H' → Q (.bl true) H'
section
variable {P : Program} {w : World} {K : PySem.W.Frag} {mg : Str → Option Value} {base : Heap}
theorem scRoundL : FnScope ["_law_many", "_law_ties", "_law_one", "_law_other", "e"] ["_law_many", "_law_ties", "_law_one", "_law_other"] (defScope sRoundL) := ⟨rfl, rfl, rfl, by decide +kernel, rfl, by decide +kernel, by decide +kernel⟩
theorem ok_roundL {f CH CT CL fR fIL : Addr} {fd fdR : FuncData} {k : Nat} (F : Fun K "_law_round" "_law_round" sRoundL f fd) (cround_way : CalX P w K mg base (k + 1) "round_way" fR fdR ["many", "ties", "one", "other"] (spRoundX CH CT CL)) (TL : ExcT K mg "Lone" CL fIL) (fL : PySem.W.findIn K (.ref CL) "lot" = some none) (eLL : PySem.W.exmOne K (.ref CL) (.ref CL) = some true) :
    FnOk P w K mg base CX0 (k + 2) f fd ["_law_many", "_law_ties", "_law_one", "_law_other"] spRoundL := by
  refine F.ok scRoundL (fun vs H Q E h => ?_) (fun cdv A outer s H vs Q E hr h => ?_)
  · obtain ⟨n, s, g, t, ts, rfl, _⟩ := h
    rfl
  · obtain ⟨n, si, gi, t, ts, rfl, hn, hs, hg, hne, hT, hl, hG, kN, kW⟩ := h
    refine ⟨_, pss_one (ps_try_mix (tb := fun W => tRet (tTup (tCons (tCallS (spRoundX CH CT CL) (WE W) (tCons (tVar 0) (tCons (tVar 1) (tCons (tVar 2) (tCons (tVar 3) tNil))))) (tCons (tC .non) tNil)))) (Wout := fun _ _ _ _ => False) rfl rfl takes0
        (fun W pn xe tk _ => pss_one (ps_ret (by exact (pe_tup (pa_cons (pe_callS cround_way.ok hr rfl cround_way.g cround_way.kp cround_way.b (fun σ => passAt tk σ) (by exact (pa_cons (pv 0) (pa_cons (pv 1) (pa_cons (pv 2) (pa_cons (pv 3) pa_nil)))))) (pa_cons pe_non pa_nil))))))
        (MixOk.as (i := 4) (c := .ref CL) (ts := (fun a cls d => tRet (tTup (tCons (tC .non) (tCons (tXf a cls d CL "lot" (tVar 4)) tNil))))) scRoundL.nd rfl rfl ⟨rfl, by decide, Or.inl TL.g⟩ (fun a oe cls d pn hz hf => pss_one (ps_ret (pe_tup (pa_cons pe_non (pa_cons (pe_xf TL.xf fL hz hf (pv 4)) pa_nil))))) .nil)), ?_⟩
    have hP : ∀ e ∈ ts, 1 ≤ e.2.2 ∧ e.2.2 ≤ 9 := fun e m => (hG e m).2.2
    refine ⟨_, rfl, _, rfl, _, rfl, _, rfl, n, si, gi, t, ts, rfl, by omega, log_small (by omega), log_small (by omega), hT, hl, hG.fits, hP, fun z => absurd (by omega) z, fun _ z => absurd (by omega) z, fun _ z => absurd (by omega) hne, fun s' g' es eg hs' hg' hn' ep d l H' nd nl sm hd hl' => ?_, fun s' g' c way es eg hs' hg' hn' ep hw hwl p H' np sm hpw => ?_⟩
    · have es : s' = si := by omega
      have eg : g' = gi := by omega
      subst es
      subst eg
      refine ⟨true, eLL, fun _ a na => ?_, fun z => by cases z⟩
      refine ⟨_, rfl, rfl, rfl, d, _, _, rfl, hd, rfl, (by show 2 ≤ sizeLine; decide), fun p np => ?_⟩
      have s2 := same_upd (o := .tup [.non, .ref l]) np
      exact kN ep p l _ (sm.free np) nl (sm.trans s2) upd_same (s2 _ _ hl')
    · have es : s' = si := by omega
      have eg : g' = gi := by omega
      subst es
      subst eg
      refine ⟨(by show 2 ≤ sizeLine; decide), fun p2 np2 => ?_⟩
      have s2 := same_upd (o := .tup [.ref p, .non]) np2
      obtain ⟨wx, h1, h2⟩ := hpw
      exact kW c way ep hw hwl p2 p _ (sm.free np2) (sm.trans s2) upd_same ⟨wx, s2 _ _ h1, s2 _ _ h2⟩
theorem scWG : FnScope ["_law_ties", "_law_one", "_law_other", "_law_cost", "_law_way", "_law_total", "_law_a", "_law_b", "_law_some", "_law_tie"] ["_law_ties", "_law_one", "_law_other", "_law_cost", "_law_way"] (defScope sWayGood) := ⟨rfl, rfl, rfl, by decide +kernel, rfl, by decide +kernel, by decide +kernel⟩
theorem ok_wayGood {f : Addr} {fd : FuncData} {k : Nat} (F : Fun K "_law_way_good" "_law_way_good" sWayGood f fd) (T : BT mg) (mset : mg "set" = none) : FnOk P w K mg base CX0 (k + 1) f fd ["_law_ties", "_law_one", "_law_other", "_law_cost", "_law_way"] spWayGood := by
  refine F.ok scWG (fun vs H Q E h => ?_) (fun cdv A outer s H vs Q E hr h => ?_)
  · obtain ⟨n, u, v, c, t, wa, ts, way, rfl, _⟩ := h
    rfl
  · obtain ⟨n, u, v, c, t, wa, ts, way, rfl, hT, htl, hG, hnd, hu, hv, huv, hwa, hw, hc, hwl, kk⟩ := h
    refine ⟨_, (pss_cons (ps_set (i := 5) scWG.nd rfl (.inl rfl) pe_int)
      (pss_cons (ps_for PassesOwn.never rfl (pi_list (SwZ.pe_listZip rfl (by rfl) T.list (by rfl) T.zip (pa_cons (pv 4) (pa_cons (pe_slice (r := rSlT K) sl_tup (pv 4) (po_some pe_int) po_none) pa_nil)))) (pg_tup rfl (pgs_cons (pg_name (i := 6) scWG.nd rfl (Or.inr rfl)) (pgs_cons (pg_name (i := 7) scWG.nd rfl (Or.inr rfl)) pgs_nil)))
        (pss_cons (ps_setLc (i := 8) (own := [("_law_tie", 9)]) (g := (gName 9)) rfl scWG.nd rfl rfl (sw_true rfl rfl rfl (by decide +kernel)) (by exact (pi_list (pv 0))) (blkOk_by (own := [("_law_tie", 9)]) (N := ["_law_ties", "_law_one", "_law_other", "_law_cost", "_law_way", "_law_total", "_law_a", "_law_b", "_law_some", "_law_tie"]) (sc := (defScope sWayGood)) (by decide +kernel)) (fun _ _ _ _ _ => by exact (pg_name (i := 9) scWG.nd rfl (Or.inl rfl))) (fun _ _ _ _ _ => by exact (pts_one (pt_cmpR (r := rEqD K) (op_eqD hr.units) (pe_callB (r := SwS.rSortedTI K) SwS.cr_sortedTI (by rfl) T.sorted (by decide +kernel) (pa_cons (pe_slice (r := rSlT K) sl_tup (pv 9) po_none (po_some pe_int)) pa_nil)) (pe_callB (r := rSortedI K) cr_sortedI (by rfl) T.sorted (by decide +kernel) (pa_cons (pe_lst (pa_cons (pv 6) (pa_cons (pv 7) pa_nil))) pa_nil)) (nomark _)))) (fun _ _ _ _ _ => by exact (pe_ix (r := rIxT K) ix_tup (pv 9) pe_int (fun _ _ => rfl))))
        (pss_cons (ps_if (PW.pt (pw_or (pt_cmpR (r := rEqD K) (op_eqD hr.units) (pv 8) (pe_lst pa_nil) (nomark _)) (pw_or1 (pt_cmpR (r := rEqD K) (op_eqD hr.units) (pe_callB (r := rSortedI K) cr_sortedI (by rfl) T.sorted (by decide +kernel) (pa_cons (pe_lst (pa_cons (pv 6) (pa_cons (pv 7) pa_nil))) pa_nil)) (pe_callB (r := rSortedI K) cr_sortedI (by rfl) T.sorted (by decide +kernel) (pa_cons (pe_lst (pa_cons (pv 1) (pa_cons (pv 2) pa_nil))) pa_nil)) (nomark _)))))
          (pss_one (ps_ret pe_bl))
          pss_nil)
        (pss_one (ps_set (i := 5) scWG.nd rfl (.inl rfl) (pe_op op_add (pv 5) (pe_ix (r := rIxL K) ix_list (pv 8) pe_int (fun _ _ => rfl))))))))
      (pss_one (ps_ret (pe_and (pe_cmpR op_eq (pe_ix (r := rIxT K) ix_tup (pv 4) pe_int (fun _ _ => rfl)) (pv 1) (nomark _)) (pe_and (pe_cmpR op_eq (pe_ix (r := rIxT K) ix_tup (pv 4) (pe_un un_neg pe_int) (fun _ _ => rfl)) (pv 2) (nomark _)) (pe_and (pe_cmpR op_eq (pe_callB SwS.cr_lenSet (by rfl) T.len PySem.boot_len (pa_cons (pe_callTy (SwS.cr_setI rfl) (by rfl) mset (by decide +kernel) (pa_cons (pv 4) pa_nil)) pa_nil)) (pe_callB call_len_seq (by rfl) T.len PySem.boot_len (pa_cons (pv 4) pa_nil)) (nomark _)) (pe_one (pe_cmpR op_eq (pv 5) (pv 3) (nomark _)))))))))), ?_⟩
    have hGl := lft_good (u := u) (v := v) hG
    have fI := farD_is (g := v) hGl.fits hv
    obtain ⟨r, er⟩ := Sw.wayto_first hw
    subst er
    have hlast := Sw.wayto_last hw
    have hsimple := (wayto_simple fI (fun a b c m => by
      rcases (both_mem _ _).mp m with q | q
      · exact (hGl _ q).2.2.1
      · exact (hGl _ q).2.2.1) hw c hc).1
    have hrl : r ≠ [] := fun z => by
      subst z
      simp at hlast
      exact huv hlast
    refine ⟨_, rfl, _, rfl, 1, rfl, wa, _, rfl, SqT.of hwa, ?_, fun sl nsl => ?_⟩
    · rintro ⟨z, _⟩
      rw [List.length_map] at z
      have e : HT.sIx (u :: r).length 0 (some 1) = 1 := by
        show (if (1 : Int) < 0 then ((1 : Int) + ((u :: r).length : Int)).toNat else min (1 : Int).toNat (u :: r).length) = 1
        rw [if_neg (by decide), List.length_cons]
        show min 1 (r.length + 1) = 1
        omega
      rw [e] at z
      cases z
    have ecut : cutV ((u :: r).map fun h : Nat => V.int (h : Nat)) (some 1) none = r.map fun h : Nat => V.int (h : Nat) := by rw [List.map_cons]; exact cut_tail _ _
    rw [ecut]
    have s1 := same_upd (o := .tup (r.map fun h : Nat => V.int (h : Nat))) nsl
    refine ⟨wa, sl, _, _, rfl, SqT.of (s1 _ _ hwa), SqT.of upd_same, ?_, fun H2 p zs k2 np nzs pn hp hpair => ?_⟩
    · rw [List.length_zip, List.length_map, List.length_map]
      exact Nat.le_trans (Nat.min_le_left _ _) (by omega)
    have hzl : zs.length = r.length := by
      have := paired_len hpair
      rw [List.length_zip, List.length_map, List.length_map, List.length_cons] at this
      omega
    have S2 : Same H H2 := s1.trans k2
    refine ⟨p, rfl, ⟨_, SqL.of hp⟩, for_list (K := K) (a := p) (xs := zs.map V.ref) (fun i σ H' => ∃ (tot : Nat) (y6 y7 y8 y9 : Option V), σ = [some (.ref t), some (.int (u : Nat)), some (.int (v : Nat)), some (.int (c : Nat)), some (.ref wa), some (.int (tot : Nat)), y6, y7, y8, y9] ∧ Same H2 H' ∧ ∃ x m, (u :: r)[i]? = some x ∧ at? (farD n (lft ts u v) v) x = some m ∧ tot + m = c)
      ⟨0, _, _, _, _, rfl, Same.refl _, u, c, rfl, hc, by omega⟩ (fun i σ H' _ ⟨_, _, _, _, _, _, sx, _⟩ => SqL.of (sx _ _ hp)) ?_ ?_⟩
    · rintro i y σ H3 hi ⟨tot, y6, y7, y8, y9, rfl, s3, x, m, ex, em, etot⟩
      obtain ⟨z, ez, rfl⟩ := map_ref_at hi
      obtain ⟨qq, eq, hq⟩ := paired_at hpair i z ez
      rw [List.getElem?_zip_eq_some, List.getElem?_map, List.getElem?_map] at eq
      obtain ⟨q1, q2⟩ := qq
      obtain ⟨a, ha, ea⟩ := Option.map_eq_some_iff.mp eq.1
      obtain ⟨b, hb, eb⟩ := Option.map_eq_some_iff.mp eq.2
      rw [ex] at ha
      cases ha
      cases ea
      cases eb
      obtain ⟨pc, y0, mE, ey, eax⟩ := Sw.wayto_steps hw i x b ex (by rw [List.getElem?_cons_succ]; exact hb)
      rw [em] at eax
      cases eax
      have mB : (x, b, pc) ∈ both ts := by
        rcases (both_mem _ _).mp mE with q | q
        · exact (both_mem _ _).mpr (.inl (lft_sub _ q))
        · exact (both_mem _ _).mpr (.inr (lft_sub _ q))
      have hS3 : Same H H3 := S2.trans s3
      refine ⟨z, _, rfl, SqT.of (s3 _ _ hq), rfl, _, _, rfl, _, _, rfl, rfl, ?_⟩
      -- some
      obtain ⟨as, ht, hpt⟩ := id (hT.same hS3)
      have hal := paired_len hpt
      refine ⟨_, rfl, t, rfl, ⟨_, SqL.of ht⟩, fun D nD => ?_⟩
      refine lc_list (K := K) (a := t) (xs := as.map V.ref) (fun j H' => Same H3 H' ∧ H' D = some (.lst (((ts.take j).filter (fun e => decide (e.1 = min x b ∧ e.2.1 = max x b))).map fun e => V.int (e.2.2 : Nat)))) ⟨same_upd nD, by rw [upd_same]; rfl⟩ (fun j H' _ ⟨sx, _⟩ => SqL.of (sx _ _ ht)) ?_ ?_
      · rintro j y H4 hj ⟨s4, hD⟩
        obtain ⟨a', ea', rfl⟩ := map_ref_at hj
        obtain ⟨e, ee, he⟩ := paired_at hpt j a' ea'
        have hge := hG e (List.mem_of_getElem? ee)
        refine ⟨rfl, ?_⟩
        refine ⟨_, rfl, 2, rfl, a', tv e, rfl, SqT.of (s4 _ _ he), (fun z => absurd (show HT.sIx 3 3 (some 2) = 3 from z.2) (by decide)), fun g1 ng1 => ?_⟩
        rw [cut_two]
        have s5 := same_upd (o := .tup ([((e.1 : Nat) : Int), ((e.2.1 : Nat) : Int)].map V.int)) ng1
        refine ⟨g1, [((e.1 : Nat) : Int), ((e.2.1 : Nat) : Int)], rfl, SqT.of upd_same, (by show 2 ≤ 1000; decide), fun ys1 g2 hp1 hp2 ng2 => ?_⟩
        have e1 := sort2_of hp1 hp2
        subst e1
        have s6 := same_upd (o := .lst ((sort2 e.1 e.2.1).map V.int)) ng2
        refine ⟨_, rfl, _, rfl, (by show 2 ≤ sizeLine; decide), fun g3 ng3 => ?_⟩
        have s7 := same_upd (o := .lst ([((x : Nat) : Int), ((b : Nat) : Int)].map V.int)) ng3
        refine ⟨g3, [((x : Nat) : Int), ((b : Nat) : Int)], rfl, SqL.of upd_same, fun ys2 g4 hp3 hp4 ng4 => ?_⟩
        have e2 := sort2_of hp3 hp4
        subst e2
        have s8 := same_upd (o := .lst ((sort2 x b).map V.int)) ng4
        refine ⟨_, _, dp_ints (SqL.of (s8 _ _ (s7 _ _ upd_same))), dp_ints (SqL.of upd_same), shaped_ints _, shaped_ints _, _, rfl, ?_⟩
        rw [eqv_ints]
        have sA : Same H4 _ := s5.trans (s6.trans (s7.trans s8))
        have step : (ts.take (j + 1)).filter (fun e => decide (e.1 = min x b ∧ e.2.1 = max x b)) = (ts.take j).filter (fun e => decide (e.1 = min x b ∧ e.2.1 = max x b)) ++ (if (e.1 = min x b ∧ e.2.1 = max x b) then [e] else []) := by
          rw [take_succ_of ee, List.filter_append]
          congr 1
          rw [List.filter_cons]
          by_cases c1 : (e.1 = min x b ∧ e.2.1 = max x b)
          · rw [if_pos (decide_eq_true c1), if_pos c1]; rfl
          · rw [if_neg (fun z => c1 (of_decide_eq_true z)), if_neg c1]; rfl
        have hmn : min e.1 e.2.1 = e.1 := Nat.min_eq_left (Nat.le_of_lt hge.1)
        have hmx : max e.1 e.2.1 = e.2.1 := Nat.max_eq_right (Nat.le_of_lt hge.1)
        have iff : sort2 e.1 e.2.1 = sort2 x b ↔ (e.1 = min x b ∧ e.2.1 = max x b) := by
          unfold sort2
          rw [hmn, hmx]
          constructor
          · intro h
            injection h with h1 h2
            injection h2 with h2 h3
            omega
          · rintro ⟨h1, h2⟩
            rw [h1, h2]
        have lt : ((ts.take j).filter (fun e => decide (e.1 = min x b ∧ e.2.1 = max x b))).length ≤ 400 := Nat.le_trans (List.length_filter_le _ _) (by rw [List.length_take]; omega)
        by_cases cnd : (e.1 = min x b ∧ e.2.1 = max x b)
        · rw [decide_eq_true (iff.mpr cnd)]
          refine iteT ?_
          refine ⟨_, rfl, a', _, 2, _, rfl, rfl, SqT.of (sA _ _ (s4 _ _ he)), rfl, _, sA _ _ hD, by rw [List.length_map]; exact small1000 (by omega), fun bb o q => ?_, ?_⟩
          · rw [upd_ne (ne_of_none q nD)]
            exact sA _ _ (s4 _ _ q)
          · rw [upd_same, step, if_pos cnd, List.map_append]
            rfl
        · rw [decide_eq_false (fun z => cnd (iff.mp z))]
          refine iteF ?_
          refine ⟨s4.trans sA, ?_⟩
          rw [step, if_neg cnd, List.append_nil]
          exact sA _ _ hD
      · rintro H4 ⟨s4, hD⟩
        rw [List.length_map, hal, List.take_length, ties_of hG hnd mB] at hD
        have hD : H4 D = some (.lst ([((pc : Nat) : Int)].map V.int)) := hD
        -- nothing there, or the tie itself
        refine ⟨_, rfl, (by show 0 ≤ sizeLine; decide), fun g1 ng1 => ?_⟩
        have s5 := same_upd (o := .lst []) ng1
        refine ⟨_, _, dp_ints (us := [((pc : Nat) : Int)]) (SqL.of (s5 _ _ hD)), dp_ints (us := []) (SqL.of upd_same), shaped_ints _, shaped_ints _, _, rfl, ?_⟩
        rw [eqv_ints, decide_eq_false (fun z => by cases z)]
        refine iteF ?_
        refine ⟨_, rfl, _, rfl, (by show 2 ≤ sizeLine; decide), fun g3 ng3 => ?_⟩
        have s6 := same_upd (o := .lst ([((x : Nat) : Int), ((b : Nat) : Int)].map V.int)) ng3
        refine ⟨g3, [((x : Nat) : Int), ((b : Nat) : Int)], rfl, SqL.of upd_same, fun ys2 g4 hp3 hp4 ng4 => ?_⟩
        have e2 := sort2_of hp3 hp4
        subst e2
        have s7 := same_upd (o := .lst ((sort2 x b).map V.int)) ng4
        refine ⟨_, rfl, _, rfl, (by show 2 ≤ sizeLine; decide), fun g5 ng5 => ?_⟩
        have s8 := same_upd (o := .lst ([((u : Nat) : Int), ((v : Nat) : Int)].map V.int)) ng5
        refine ⟨g5, [((u : Nat) : Int), ((v : Nat) : Int)], rfl, SqL.of upd_same, fun ys3 g6 hp5 hp6 ng6 => ?_⟩
        have e3 := sort2_of hp5 hp6
        subst e3
        have s9 := same_upd (o := .lst ((sort2 u v).map V.int)) ng6
        refine ⟨_, _, dp_ints (SqL.of (s9 _ _ (s8 _ _ upd_same))), dp_ints (SqL.of upd_same), shaped_ints _, shaped_ints _, _, rfl, ?_⟩
        rw [eqv_ints, decide_eq_false (fun z => by
          rcases (both_mem _ _).mp mE with q | q
          · have q := lft_mem.mp q
            rcases sort2_eq z with ⟨h1, h2⟩ | ⟨h1, h2⟩
            · exact q.2.1 ⟨h1, h2⟩
            · exact q.2.2 ⟨h2, h1⟩
          · have q := lft_mem.mp q
            rcases sort2_eq z with ⟨h1, h2⟩ | ⟨h1, h2⟩
            · exact q.2.2 ⟨h1, h2⟩
            · exact q.2.1 ⟨h2, h1⟩)]
        refine iteF ?_
        have sB : Same H4 _ := s5.trans (s6.trans (s7.trans (s8.trans s9)))
        refine ⟨_, rfl, _, rfl, D, _, 0, .int ((pc : Nat) : Int), rfl, rfl, SqL.of (sB _ _ hD), rfl, _, _, rfl, rfl, ?_⟩
        exact ⟨tot + pc, _, _, _, _, rfl, s3.trans (s4.trans sB), b, y0, by rw [List.getElem?_cons_succ]; exact hb, ey, by omega⟩
    · rintro σ H3 ⟨tot, y6, y7, y8, y9, rfl, s3, x, m, ex, em, etot⟩
      rw [List.length_map, hzl] at ex
      have hl2 : (u :: r)[r.length]? = some v := hlast
      rw [hl2] at ex
      cases ex
      rw [Sw.far_goal fI] at em
      cases em
      have etc : tot = c := by omega
      subst etc
      have hS3 : Same H H3 := S2.trans s3
      have hw3 := hS3 _ _ hwa
      refine ⟨_, rfl, wa, _, 0, .int (u : Nat), rfl, rfl, SqT.of hw3, atI0 (by decide) rfl, _, rfl, rfl, _, rfl, ?_⟩
      rw [decide_eq_true rfl]
      refine iteT ?_
      refine ⟨_, rfl, 1, rfl, wa, _, -1, .int (v : Nat), rfl, rfl, SqT.of hw3, ?_, _, rfl, rfl, _, rfl, ?_⟩
      · exact at_last (by rw [List.length_map, List.getElem?_map, hlast]; rfl) (by rw [List.length_map, List.length_cons]; omega)
      rw [decide_eq_true rfl]
      refine iteT ?_
      have emap : ((u :: r).map fun h : Nat => V.int (h : Nat)) = ((u :: r).map fun h : Nat => (h : Int)).map V.int := by rw [List.map_map]; rfl
      refine ⟨_, rfl, wa, ((u :: r).map fun h : Nat => (h : Int)), rfl, .inr (by rw [← emap]; exact SqT.of hw3), by rw [List.length_map]; omega, fun sa sc nsa hsc hsn => ?_⟩
      have hlen := hsn (List.pairwise_map.mpr (hsimple.imp fun h z => h (Int.ofNat.inj z)))
      rw [List.length_map] at hlen
      subst hlen
      have s9 := same_upd (o := SetO w sa (fun j => decide (j ∈ (u :: r).map fun h : Nat => (h : Int))) (u :: r).length) nsa
      refine ⟨sa, _, _, rfl, upd_same, by omega, _, rfl, wa, _, rfl, .inr (SqT.of (s9 _ _ hw3)), rfl, _, rfl, ?_⟩
      rw [List.length_map, decide_eq_true rfl]
      refine iteT ?_
      refine ⟨_, rfl, _, rfl, rfl, ?_⟩
      rw [decide_eq_true rfl]
      exact kk _ (hS3.trans s9)
end
end K

namespace K
open PySem PySem.Spec PyProof.Rows L2
open Sw (T3 Dist at? relax roundOf rounds IsNext Cand IsFar nbr candL WayTo lotOf)
abbrev sLaw : Stmt := top 24
theorem eqvAll_ties : ∀ ts : List T3, PyData.eqvAll (ts.map tupData) (ts.map tupData) = true
  | [] => by simp [PyData.eqvAll]
  | e :: ts => by simp [PyData.eqvAll, PyData.eqv, tupData, eqvAll_ties ts]
theorem eqv_tiesR (ts : List T3) : PyData.eqv (tieData ts) (tieData ts) = true := by
  have := eqvAll_ties ts
  simpa [tieData, PyData.eqv] using this
theorem lot_ints (l : List Nat) : (l.map fun h : Nat => V.int (h : Nat)) = (l.map fun h : Nat => (h : Int)).map V.int := by rw [List.map_map]; rfl
theorem inV_lot (x : Nat) (l : List Nat) : inV (.int (x : Nat)) (l.map fun h : Nat => V.int (h : Nat)) = decide (x ∈ l) := by
  rw [lot_ints, inV_ints, decide_eq_decide]
  constructor
  · intro h
    obtain ⟨y, hy, e⟩ := List.mem_map.mp h
    have e : (y : Int) = (x : Int) := e
    have : y = x := by omega
    subst this
    exact hy
  · exact fun h => List.mem_map_of_mem h
theorem flat_lot (l : List Nat) : (l.map fun h : Nat => V.int (h : Nat)).all flatV = true := by rw [lot_ints]; exact flat_intsV _
theorem any_false (m : Nat) : (List.replicate m false).any id = false := by
  rw [List.any_eq_false]
  intro x hx
  rw [List.eq_of_mem_replicate hx]
  exact Bool.false_ne_true
theorem strict_one {xs ys : List Int} (hx : xs.Pairwise (· < ·)) (hy : ys.Pairwise (· < ·)) (h : ∀ k, k ∈ xs ↔ k ∈ ys) : xs = ys :=
  sorted_one ((List.perm_ext_iff_of_nodup (hx.imp fun h => Int.ne_of_lt h) (hy.imp fun h => Int.ne_of_lt h)).mpr h) (hx.imp fun h => Int.le_of_lt h) (hy.imp fun h => Int.le_of_lt h)
section
variable {P : Program} {w : World} {K : PySem.W.Frag} {mg : Str → Option Value} {base : Heap}
theorem scLaw : FnScope ["_law_script", "_law_box_here", "_law_many", "_law_ties", "_law_one", "_law_other", "_law_cost", "_law_found", "_law_lot", "_law_back", "_law_beyond", "_law_out", "_law_tie", "_law_house"] ["_law_script"] (defScope sLaw) := ⟨rfl, rfl, rfl, by decide +kernel, rfl, by decide +kernel, by decide +kernel⟩
theorem ok_law {f fB fT fM fR fG : Addr} {fd fdB fdT fdM fdR fdG : FuncData} (F : Fun K "law" "law" sLaw f fd) (T : BT mg) (mset : mg "set" = none) (mAny : mg "any" = none)
    (c_law_box : Cal P w K mg base 14 "_law_box" fB fdB ["_law_script"] (spBox K)) (c_law_take : Cal P w K mg base 14 "_law_take" fT fdT ["_law_box_here", "_law_sides"] spTake)
    (c_law_some_ties : Cal P w K mg base 14 "_law_some_ties" fM fdM ["_law_box_here", "_law_many", "_law_odds"] spSomeD)
    (c_law_round : Cal P w K mg base 14 "_law_round" fR fdR ["_law_many", "_law_ties", "_law_one", "_law_other"] spRoundL) (c_law_way_good : Cal P w K mg base 14 "_law_way_good" fG fdG ["_law_ties", "_law_one", "_law_other", "_law_cost", "_law_way"] spWayGood) : FnOk P w K mg base CX0 15 f fd ["_law_script"] (spLaw K) := by
  refine F.ok scLaw (fun vs H Q E h => ?_) (fun cdv A outer s H vs Q E hr h => ?_)
  · obtain ⟨a, ns, rfl, _⟩ := h
    rfl
  · obtain ⟨a, ns, rfl, hS, hlen, kk⟩ := h
    refine ⟨_, (pss_cons (ps_set (i := 1) scLaw.nd rfl (.inl rfl) (pe_call c_law_box.ok hr (by rfl) c_law_box.g c_law_box.kp c_law_box.b .nil pass0 (pa_cons (pv 0) pa_nil)))
      (pss_cons (ps_set (i := 2) scLaw.nd rfl (.inl rfl) (pe_op op_add pe_int (pe_call c_law_take.ok hr (by rfl) c_law_take.g c_law_take.kp c_law_take.b .nil pass0 (pa_cons (pv 1) (pa_cons pe_int pa_nil)))))
      (pss_cons (ps_set (i := 3) scLaw.nd rfl (.inl rfl) (pe_call c_law_some_ties.ok hr (by rfl) c_law_some_ties.g c_law_some_ties.kp c_law_some_ties.b .nil pass0 (pa_cons (pv 1) (pa_cons (pv 2) (pa_cons (pe_op op_add pe_int (pe_call c_law_take.ok hr (by rfl) c_law_take.g c_law_take.kp c_law_take.b .nil pass0 (pa_cons (pv 1) (pa_cons pe_int pa_nil)))) pa_nil)))))
      (pss_cons (ps_for PassesOwn.never rfl (pi_list (pv 3)) (pg_tup rfl (pgs_cons (pg_name (i := 4) scLaw.nd rfl (Or.inl rfl)) (pgs_cons (pg_name (i := 5) scLaw.nd rfl (Or.inl rfl)) (pgs_cons (pg_name (i := 6) scLaw.nd rfl (Or.inl rfl)) pgs_nil))))
        (pss_cons (ps_asg (pe_call c_law_round.ok hr (by rfl) c_law_round.g c_law_round.kp c_law_round.b .nil pass0 (pa_cons (pv 2) (pa_cons (pe_callTy call_list_of (by rfl) T.list (by decide +kernel) (pa_cons (pv 3) pa_nil)) (pa_cons (pv 4) (pa_cons (pv 5) pa_nil))))) (pg_tup rfl (pgs_cons (pg_name (i := 7) scLaw.nd rfl (Or.inl rfl)) (pgs_cons (pg_name (i := 8) scLaw.nd rfl (Or.inr rfl)) pgs_nil))))
        (pss_cons (ps_asg (pe_call c_law_round.ok hr (by rfl) c_law_round.g c_law_round.kp c_law_round.b .nil pass0 (pa_cons (pv 2) (pa_cons (pe_callTy call_list_of (by rfl) T.list (by decide +kernel) (pa_cons (pv 3) pa_nil)) (pa_cons (pv 5) (pa_cons (pv 4) pa_nil))))) (pg_tup rfl (pgs_cons (pg_name (i := 9) scLaw.nd rfl (Or.inl rfl)) (pgs_cons (pg_name (i := 10) scLaw.nd rfl (Or.inl rfl)) pgs_nil))))
        (pss_cons (ps_if (PW.pt (pw_or (pt_cmpR op_ne (pe_cmpR op_isN (pv 8) pe_non (nomark _)) (pe_cmpR op_isN (pv 10) pe_non (nomark _)) (nomark _)) (pw_or1 (pt_cmpR op_eq (pe_cmpR op_isN (pv 7) pe_non (nomark _)) (pe_cmpR op_isN (pv 8) pe_non (nomark _)) (nomark _)))))
          (pss_one (ps_ret pe_bl))
          pss_nil)
        (pss_cons (ps_if (PW.pt (pw_and (pt_cmpR op_notN (pv 7) pe_non (nomark _)) (pw_and1 (pt_cmpR op_ne (pe_ix (r := rIxT K) ix_tup (pv 7) pe_int (fun _ _ => rfl)) (pe_ix (r := rIxT K) ix_tup (pv 9) pe_int (fun _ _ => rfl)) (nomark _)))))
          (pss_one (ps_ret pe_bl))
          pss_nil)
        (pss_cons (ps_if (PW.pt (pw_and (pt_cmpR op_notN (pv 7) pe_non (nomark _)) (pw_and1 (pt_not (pt_val (pe_call c_law_way_good.ok hr (by rfl) c_law_way_good.g c_law_way_good.kp c_law_way_good.b .nil pass0 (pa_cons (pv 3) (pa_cons (pv 4) (pa_cons (pv 5) (pa_cons (pe_ix (r := rIxT K) ix_tup (pv 7) pe_int (fun _ _ => rfl)) (pa_cons (pe_ix (r := rIxT K) ix_tup (pv 7) pe_int (fun _ _ => rfl)) pa_nil)))))))))))
          (pss_one (ps_ret pe_bl))
          pss_nil)
        (pss_one (ps_if (pt_cmpR op_notN (pv 8) pe_non (nomark _))
          (pss_cons (ps_setLc (i := 11) (own := [("_law_tie", 12)]) (g := (gName 12)) rfl scLaw.nd rfl rfl (sw_true rfl rfl rfl (by decide +kernel)) (by exact (pi_list (pv 3))) (blkOk_by (own := [("_law_tie", 12)]) (N := ["_law_script", "_law_box_here", "_law_many", "_law_ties", "_law_one", "_law_other", "_law_cost", "_law_found", "_law_lot", "_law_back", "_law_beyond", "_law_out", "_law_tie", "_law_house"]) (sc := (defScope sLaw)) (by decide +kernel)) (fun _ _ _ _ _ => by exact (pg_name (i := 12) scLaw.nd rfl (Or.inl rfl))) (fun _ _ _ _ _ => by exact (pts_one (pt_cmpR op_ne (pe_cmpR (r := rIn K false) op_in_seq (pe_ix (r := rIxT K) ix_tup (pv 12) pe_int (fun _ _ => rfl)) (pv 8) (by rfl)) (pe_cmpR (r := rIn K false) op_in_seq (pe_ix (r := rIxT K) ix_tup (pv 12) pe_int (fun _ _ => rfl)) (pv 8) (by rfl)) (nomark _)))) (fun _ _ _ _ _ => by exact (pv 12)))
          (pss_cons (ps_if (PW.pt (pw_or (pt_cmpR (r := rNeD K) (op_neD hr.units) (pv 11) (pe_lst (pa_cons (pe_tup (pa_cons (pv 4) (pa_cons (pv 5) (pa_cons (pv 6) pa_nil)))) pa_nil)) (nomark _)) (pw_or (pt_cmpR (r := rIn K true) op_notIn_seq (pv 4) (pv 8) (by rfl)) (pw_or1 (pt_cmpR (r := rNeD K) (op_neD hr.units) (pv 8) (pe_callB (cr_sortedSet rfl) (by rfl) T.sorted (by decide +kernel) (pa_cons (pe_callTy (SwS.cr_setI rfl) (by rfl) mset (by decide +kernel) (pa_cons (pv 8) pa_nil)) pa_nil)) (nomark _))))))
            (pss_one (ps_ret pe_bl))
            pss_nil)
          (pss_one (ps_if (pt_val (pe_callB (cr_any rfl) (by rfl) mAny (by decide +kernel) (pa_cons (pe_lc (own := [("_law_house", 13)]) (g := (gName 13)) (tt := tYes) rfl scLaw.nd (by exact (pi_list (pv 10))) (blkOk_by (own := [("_law_house", 13)]) (N := ["_law_script", "_law_box_here", "_law_many", "_law_ties", "_law_one", "_law_other", "_law_cost", "_law_found", "_law_lot", "_law_back", "_law_beyond", "_law_out", "_law_tie", "_law_house"]) (sc := (defScope sLaw)) (by decide +kernel)) (fun _ _ _ _ _ => by exact (pg_name (i := 13) scLaw.nd rfl (Or.inl rfl))) (fun _ _ _ _ _ => by exact pts_nil) (fun _ _ _ _ _ => by exact (pe_cmpR (r := rIn K false) op_in_seq (pv 13) (pv 8) (by rfl)))) pa_nil)))
            (pss_one (ps_ret pe_bl))
            pss_nil))))
          pss_nil))))))))
      (pss_one (ps_ret pe_bl)))))), ?_⟩
    refine ⟨_, rfl, a, ns, rfl, hS, hlen, fun p q H1 np nq B1 s1 => ?_⟩
    refine ⟨_, rfl, p, q, 7, rfl, B1, by omega, by omega, fun z H3 hz0 hz1 B3 b3 => ?_⟩
    refine ⟨_, _, rfl, rfl, ?_⟩
    obtain ⟨n, en⟩ : ∃ n : Nat, 2 + z = (n : Nat) := ⟨(2 + z).toNat, by omega⟩
    show gName 2 (V.int (2 + z)) _ _ _
    rw [en]
    have hn0 : 0 < n := by omega
    have hn8 : n ≤ 8 := by omega
    refine ⟨_, rfl, _, rfl, _, rfl, p, q, 5, rfl, B3, by omega, by omega, fun z4 H4 hz40 hz41 B4 b4 => ?_⟩
    refine ⟨_, _, rfl, rfl, p, q, n, _, rfl, B4, hn0, hn8, fun t H5 ts nt B5 b5 hT5 hG hL hnd => ?_⟩
    obtain ⟨as, ht, hpt⟩ := id hT5
    have hal := paired_len hpt
    refine ⟨_, rfl, t, rfl, ⟨_, SqL.of ht⟩, for_list (K := K) (a := t) (xs := as.map V.ref) (fun i σ H' => ∃ y4 y5 y6 y7 y8 y9 y10 y11 y12 y13, σ = [some (.ref a), some (.ref p), some (.int (n : Nat)), some (.ref t), y4, y5, y6, y7, y8, y9, y10, y11, y12, y13] ∧ Same H5 H') ⟨_, _, _, _, _, _, _, _, _, _, rfl, Same.refl _⟩ (fun i σ H' _ ⟨_, _, _, _, _, _, _, _, _, _, _, sx⟩ => SqL.of (sx _ _ ht)) ?_ ?_⟩
    · rintro i y σ H6 hi ⟨y4, y5, y6, y7, y8, y9, y10, y11, y12, y13, rfl, s6⟩
      obtain ⟨x, ex, rfl⟩ := map_ref_at hi
      obtain ⟨e, ee, he⟩ := paired_at hpt i x ex
      obtain ⟨u, v, c⟩ := e
      have hm := List.mem_of_getElem? ee
      have hge := hG _ hm
      have hu : u < v := hge.1
      have hv : v < n := hge.2.1
      have hF : Fits n (lft ts u v) := lft_fits hG.fits
      have fu := farD_is (g := u) hF (by omega)
      have fv := farD_is (g := v) hF hv
      have fsym := Sw.far_sym (both_symS _) fv fu
      have fsym : at? (farD n (lft ts u v) v) u = at? (farD n (lft ts u v) u) v := fsym
      refine ⟨x, tv (u, v, c), rfl, SqT.of (s6 _ _ he), rfl, _, _, rfl, _, _, rfl, _, _, rfl, rfl, ?_⟩
      -- there and back
      refine ⟨_, rfl, _, rfl, t, _, rfl, .inl (SqL.of (s6 _ _ ht)), fun l1 nl1 => ?_⟩
      have s7 := same_upd (o := .lst (as.map V.ref)) nl1
      have hT7 : TiesAt (upd H6 l1 (.lst (as.map V.ref))) l1 ts := ⟨as, upd_same, paired_mono (fun a e q => s7 _ _ (s6 _ _ q)) hpt⟩
      refine ⟨_, rfl, _, rfl, n, u, v, l1, ts, rfl, hn8, by omega, hv, by omega, hT7, by omega, hG, fun e0 p1 lo1 H8 np1 nlo1 s8 hp1 hlo1 => ?_, fun c1 way e0 hw hwl p1 w1 H8 np1 s8 hp1 hpw => ?_⟩
      · -- a lot
        refine ⟨p1, _, rfl, SqT.of hp1, rfl, _, _, rfl, _, _, rfl, rfl, ?_⟩
        have S8 : Same H5 H8 := s6.trans (s7.trans s8)
        refine ⟨_, rfl, _, rfl, t, _, rfl, .inl (SqL.of (S8 _ _ ht)), fun l2 nl2 => ?_⟩
        have s9 := same_upd (o := .lst (as.map V.ref)) nl2
        have hT9 : TiesAt (upd H8 l2 (.lst (as.map V.ref))) l2 ts := ⟨as, upd_same, paired_mono (fun a e q => s9 _ _ (S8 _ _ q)) hpt⟩
        refine ⟨_, rfl, _, rfl, n, v, u, l2, ts, rfl, hn8, hv, by omega, by omega, hT9, by omega, hG, fun e1 p2 lo2 H10 np2 nlo2 s10 hp2 hlo2 => ?_, fun c2 way e1 hw hwl p2 w2 H10 np2 s10 hp2 hpw => ?_⟩
        · rw [lft_comm ts v u] at hlo2 e1
          have hlo2' := hlo2
          refine ⟨p2, _, rfl, SqT.of hp2, rfl, _, _, rfl, _, _, rfl, rfl, ?_⟩
          have S10 : Same H5 H10 := S8.trans (s9.trans s10)
          have hlo := s10 _ _ (s9 _ _ hlo1)
          have h0 : at? (farD n (lft ts u v) u) v = none := by rw [← fsym]; exact e0
          refine ⟨_, rfl, rfl, _, rfl, rfl, rfl, _, rfl, iteNS rfl ?_⟩
          refine ⟨_, rfl, rfl, _, rfl, rfl, rfl, _, rfl, ?_⟩
          refine iteF ?_
          refine ⟨_, rfl, rfl, _, rfl, iteF ?_⟩
          refine iteF ?_
          refine ⟨_, rfl, rfl, _, rfl, iteF ?_⟩
          refine iteF ?_
          refine ⟨_, rfl, rfl, _, rfl, iteT ?_⟩
          have htd : H10 t = some (.lst (as.map V.ref)) := S10 _ _ ht
          refine ⟨_, rfl, t, rfl, ⟨_, SqL.of htd⟩, fun D nD => ?_⟩
          refine lc_list (K := K) (a := t) (xs := as.map V.ref) (fun j H' => Same H10 H' ∧ TiesAt H' D ((ts.take j).filter (fun e => decide (decide (e.1 ∈ lotOf n (farD n (lft ts u v) u)) ≠ decide (e.2.1 ∈ lotOf n (farD n (lft ts u v) u)))))) ⟨same_upd nD, [], upd_same, .nil⟩ (fun j H' _ ⟨sx, _⟩ => SqL.of (sx _ _ htd)) ?_ ?_
          · rintro j y H11 hj ⟨s11, bs, hD, hbs⟩
            obtain ⟨a', ea', rfl⟩ := map_ref_at hj
            obtain ⟨e, ee2, he2⟩ := paired_at hpt j a' ea'
            have hbl := paired_len hbs
            have he11 := s11 _ _ (S10 _ _ he2)
            refine ⟨rfl, ?_⟩
            refine ⟨_, rfl, a', _, 0, _, rfl, rfl, SqT.of he11, rfl, _, rfl, lo1, _, rfl, .inl (SqL.of (s11 _ _ hlo)), rfl, flat_lot _, ?_⟩
            refine ⟨_, rfl, a', _, 1, _, rfl, rfl, SqT.of he11, rfl, _, rfl, lo1, _, rfl, .inl (SqL.of (s11 _ _ hlo)), rfl, flat_lot _, rfl, _, rfl, ?_⟩
            show if (!decide (V.bl (inV (V.int (e.1 : Nat)) _) = V.bl (inV (V.int (e.2.1 : Nat)) _))) = true then _ else _
            rw [inV_lot, inV_lot]
            have lt : ((ts.take j).filter (fun e => decide (decide (e.1 ∈ lotOf n (farD n (lft ts u v) u)) ≠ decide (e.2.1 ∈ lotOf n (farD n (lft ts u v) u))))).length ≤ 14 := Nat.le_trans (List.length_filter_le _ _) (by rw [List.length_take]; omega)
            by_cases cnd : decide (e.1 ∈ lotOf n (farD n (lft ts u v) u)) = decide (e.2.1 ∈ lotOf n (farD n (lft ts u v) u))
            · rw [cnd, decide_eq_true rfl]
              refine iteF ⟨s11, bs, hD, ?_⟩
              rw [take_succ_of ee2, List.filter_append, List.filter_cons, if_neg (fun z => absurd cnd (of_decide_eq_true z)), List.filter_nil, List.append_nil]
              exact hbs
            · rw [decide_eq_false (fun z => cnd (V.bl.inj z))]
              refine iteT ?_
              refine ⟨_, rfl, _, hD, by rw [List.length_map]; exact small1000 (by omega), fun b o q => ?_, bs ++ [a'], ?_, ?_⟩
              · rw [upd_ne (ne_of_none q nD)]
                exact s11 _ _ q
              · rw [upd_same, List.map_append]
                rfl
              · rw [take_succ_of ee2, List.filter_append, List.filter_cons, if_pos (decide_eq_true cnd), List.filter_nil]
                refine paired_append (paired_mono (fun b e q => ?_) hbs) (.cons ?_ .nil)
                · rw [upd_ne (ne_of q hD (fun z => by cases z))]
                  exact q
                · rw [upd_ne (ne_of he11 hD (fun z => by cases z))]
                  exact he11
          · rintro H11 ⟨s11, hD⟩
            rw [List.length_map, hal, List.take_length, cut_out hG hnd hm h0] at hD
            have hlo11 := s11 _ _ hlo
            -- only the tie itself
            refine ⟨_, rfl, _, rfl, _, rfl, _, rfl, (by show 3 ≤ sizeLine; decide), fun g1 ng1 => ⟨(by show 1 ≤ sizeLine; decide), fun g2 ng2 => ?_⟩⟩
            have t1 := same_upd (o := .tup (tv (u, v, c))) ng1
            have t2 := same_upd (o := .lst [.ref g1]) ng2
            have hD2 := hD.same (t1.trans t2)
            have hg : TiesAt (upd (upd H11 g1 (.tup (tv (u, v, c)))) g2 (.lst [.ref g1])) g2 [(u, v, c)] := ⟨[g1], upd_same, .cons (t2 _ _ upd_same) .nil⟩
            refine ⟨_, _, dp_ties hD2, dp_ties hg, shaped_ties _, shaped_ties _, _, rfl, ?_⟩
            rw [eqv_tiesR]
            refine iteF ?_
            have T2 : Same H11 _ := t1.trans t2
            have hlo2 := T2 _ _ hlo11
            refine ⟨_, rfl, _, rfl, lo1, _, rfl, .inl (SqL.of hlo2), rfl, flat_lot _, _, rfl, ?_⟩
            show if (!inV (V.int (u : Nat)) _) = true then _ else _
            rw [inV_lot, decide_eq_true (Sw.lot_mem.mpr ⟨by omega, 0, Sw.far_goal fu⟩)]
            refine iteF ?_
            have hls := Sw.lot_sorted n (farD n (lft ts u v) u)
            have hll := lot_len n (farD n (lft ts u v) u)
            refine ⟨_, rfl, _, rfl, lo1, (lotOf n (farD n (lft ts u v) u)).map (fun h : Nat => (h : Int)), rfl, .inl (by rw [← lot_ints]; exact SqL.of hlo2), by rw [List.length_map]; omega, fun sa sc nsa hsc hsn => ?_⟩
            rw [List.length_map] at hsc
            have t3 := same_upd (o := SetO w sa (fun j => decide (j ∈ (lotOf n (farD n (lft ts u v) u)).map (fun h : Nat => (h : Int)))) sc) nsa
            refine ⟨sa, _, sc, rfl, upd_same, by omega, fun ns' g3 hp1' hmem hlen' ng3 => ?_⟩
            have t4 := same_upd (o := .lst (ns'.map V.int)) ng3
            have ens : ns' = (lotOf n (farD n (lft ts u v) u)).map (fun h : Nat => (h : Int)) := strict_one hp1' (List.pairwise_map.mpr (hls.imp fun h => Int.ofNat_lt.mpr h)) (fun k => by rw [hmem k, decide_eq_true_eq])
            subst ens
            have T4 : Same H11 _ := T2.trans (t3.trans t4)
            refine ⟨_, _, dp_ints (us := (lotOf n (farD n (lft ts u v) u)).map (fun h : Nat => (h : Int))) (SqL.of ((T4 _ _ hlo11).trans (by rw [lot_ints]))), dp_ints (SqL.of upd_same), shaped_ints _, shaped_ints _, _, rfl, ?_⟩
            rw [eqv_ints, decide_eq_true rfl]
            refine iteF ?_
            -- what lies beyond
            have hb2 := T4 _ _ (s11 _ _ hlo2')
            have S12 : Same H5 _ := S10.trans (s11.trans T4)
            have hlo12 := T4 _ _ hlo11
            have hll2 := lot_len n (farD n (lft ts u v) v)
            refine ⟨_, rfl, lo2, rfl, ⟨_, SqL.of hb2⟩, fun D2 nD2 => ?_⟩
            refine lc_list (K := K) (a := lo2) (xs := (lotOf n (farD n (lft ts u v) v)).map fun h : Nat => V.int (h : Nat)) (fun j H' => Same _ H' ∧ H' D2 = some (.lst ((List.replicate j false).map V.bl))) ⟨same_upd nD2, upd_same⟩ (fun j H' _ ⟨sx, _⟩ => SqL.of (sx _ _ hb2)) ?_ ?_
            · rintro j y H13 hj ⟨s13, hD13⟩
              rw [List.getElem?_map] at hj
              obtain ⟨h, eh, rfl⟩ := Option.map_eq_some_iff.mp hj
              have hjl : j < (lotOf n (farD n (lft ts u v) v)).length := (List.getElem?_eq_some_iff.mp eh).1
              have hnot := cut_apart hF (by omega) hv h0 (List.mem_of_getElem? eh)
              refine ⟨rfl, ?_⟩
              refine ⟨_, rfl, _, rfl, lo1, _, rfl, .inl (SqL.of (s13 _ _ hlo12)), rfl, flat_lot _, ?_⟩
              refine ⟨_, hD13, by rw [List.length_map, List.length_replicate]; exact small1000 (by omega), fun b o q => ?_, ?_⟩
              · rw [upd_ne (ne_of_none q nD2)]
                exact s13 _ _ q
              · rw [upd_same, List.replicate_succ', List.map_append]
                show some (HO.lst (_ ++ [V.bl (inV (V.int (h : Nat)) _)])) = _
                rw [inV_lot, decide_eq_false hnot]
                rfl
            · rintro H13 ⟨s13, hD13⟩
              refine ⟨D2, List.replicate ((lotOf n (farD n (lft ts u v) v)).map fun h : Nat => V.int (h : Nat)).length false, rfl, SqL.of hD13, _, rfl, ?_⟩
              rw [any_false]
              refine iteF ?_
              exact ⟨_, _, _, _, _, _, _, _, _, _, rfl, S12.trans s13⟩
        · rw [lft_comm ts v u] at e1
          rw [← fsym, e0] at e1
          cases e1
      · -- a way
        refine ⟨p1, _, rfl, SqT.of hp1, rfl, _, _, rfl, _, _, rfl, rfl, ?_⟩
        have S8 : Same H5 H8 := s6.trans (s7.trans s8)
        refine ⟨_, rfl, _, rfl, t, _, rfl, .inl (SqL.of (S8 _ _ ht)), fun l2 nl2 => ?_⟩
        have s9 := same_upd (o := .lst (as.map V.ref)) nl2
        have hT9 : TiesAt (upd H8 l2 (.lst (as.map V.ref))) l2 ts := ⟨as, upd_same, paired_mono (fun a e q => s9 _ _ (S8 _ _ q)) hpt⟩
        refine ⟨_, rfl, _, rfl, n, v, u, l2, ts, rfl, hn8, hv, by omega, by omega, hT9, by omega, hG, fun e1 p2 lo2 H10 np2 nlo2 s10 hp2 hlo2 => ?_, fun c2 way2 e1 hw2 hwl2 p2 w2 H10 np2 s10 hp2 hpw2 => ?_⟩
        · rw [lft_comm ts v u] at e1
          rw [← fsym, e0] at e1
          cases e1
        · rw [lft_comm ts v u] at e1
          rw [← fsym, e0] at e1
          cases e1
          refine ⟨p2, _, rfl, SqT.of hp2, rfl, _, _, rfl, _, _, rfl, rfl, ?_⟩
          have S10 : Same H5 H10 := S8.trans (s9.trans s10)
          obtain ⟨wa, hw1a, hw1b⟩ := hpw
          obtain ⟨wb, hw2a, hw2b⟩ := hpw2
          have k1 := s10 _ _ (s9 _ _ hw1a)
          have k2 := s10 _ _ (s9 _ _ hw1b)
          refine ⟨_, rfl, rfl, _, rfl, rfl, rfl, _, rfl, iteNS rfl ?_⟩
          refine ⟨_, rfl, rfl, _, rfl, rfl, rfl, _, rfl, ?_⟩
          refine iteF ?_
          refine ⟨_, rfl, rfl, _, rfl, iteT ?_⟩
          refine ⟨_, rfl, w1, _, 0, _, rfl, rfl, SqT.of k1, rfl, _, rfl, w2, _, 0, _, rfl, rfl, SqT.of hw2a, rfl, rfl, _, rfl, ?_⟩
          rw [decide_eq_true rfl]
          refine iteF ?_
          refine ⟨_, rfl, rfl, _, rfl, iteT ?_⟩
          refine ⟨_, rfl, _, rfl, _, rfl, _, rfl, w1, _, 0, _, rfl, rfl, SqT.of k1, rfl, _, rfl, w1, _, 1, _, rfl, rfl, SqT.of k1, rfl, ?_⟩
          refine ⟨n, u, v, c1, t, wa, ts, way, rfl, hT5.same S10, by omega, hG, hnd, by omega, hv, by omega, k2, hw, e0, hwl, fun H11 s11 => ⟨_, rfl, iteF ?_⟩⟩
          refine ⟨_, rfl, rfl, _, rfl, iteF ?_⟩
          exact ⟨_, _, _, _, _, _, _, _, _, _, rfl, S10.trans s11⟩
    · rintro σ H6 ⟨y4, y5, y6, y7, y8, y9, y10, y11, y12, y13, rfl, s6⟩
      exact kk H6
end
end K

namespace K
open PySem PySem.Spec PyProof.Rows L2
theorem all_mk {l : PySem.W.OpenLaw} {w : World} {K : PySem.W.Frag} {h : Heap} {mg : Str → Option Value} {fa f0 f1 f2 f3 f4 f5 f6 f7 f8 f9 f10 f11 f12 f13 f14 f15 f16 CS fS TD CNoHouse fNoHouse NNoHouse CNoTie fNoTie NNoTie CNoWay fNoWay NNoWay CLone fLone NLone   : Addr} (X : K.In h) (G : h.Ns mainGlobals mg) (hfa : mg "law" = some (.ref fa))
    {od0 an0 od1 an1 od2 an2 od3 an3 od4 an4 od5 an5 od6 an6 od7 an7 od8 an8 od9 an9 od10 an10 od11 an11 od12 an12 od13 an13 od14 an14 od15 an15 od16 an16 odS anS odT odNoHouse anNoHouse ddNoHouse odNoTie anNoTie ddNoTie odNoWay anNoWay ddNoWay odLone anLone ddLone  : Option Addr} {sl0 sl1 sl2 sl3 sl4 sl5 sl6 sl7 sl8 sl9 sl10 sl11 sl12 sl13 sl14 sl15 sl16 slS slT slNoHouse slNoTie slNoWay slLone  : Array (Option Value)} {oc0 kV0 dc0 pm0 cd0 ct0 oc1 kV1 dc1 pm1 cd1 ct1 oc2 kV2 dc2 pm2 cd2 ct2 oc3 kV3 dc3 pm3 cd3 ct3 oc4 kV4 dc4 pm4 cd4 ct4 oc5 kV5 dc5 pm5 cd5 ct5 oc6 kV6 dc6 pm6 cd6 ct6 oc7 kV7 dc7 pm7 cd7 ct7 oc8 kV8 dc8 pm8 cd8 ct8 oc9 kV9 dc9 pm9 cd9 ct9 oc10 kV10 dc10 pm10 cd10 ct10 oc11 kV11 dc11 pm11 cd11 ct11 oc12 kV12 dc12 pm12 cd12 ct12 oc13 kV13 dc13 pm13 cd13 ct13 oc14 kV14 dc14 pm14 cd14 ct14 oc15 kV15 dc15 pm15 cd15 ct15 oc16 kV16 dc16 pm16 cd16 ct16 ocS kVS dcS pmS cdS ctS ocT ocNoHouse kVNoHouse dcNoHouse pmNoHouse cdNoHouse ctNoHouse ocNoTie kVNoTie dcNoTie pmNoTie cdNoTie ctNoTie ocNoWay kVNoWay dcNoWay pmNoWay cdNoWay ctNoWay ocLone kVLone dcLone pmLone cdLone ctLone  : Value} {tk1 tk2  : Tok} {nT : Nat}
    {nmNoHouse qnNoHouse nmNoTie qnNoTie nmNoWay qnNoWay nmLone qnLone : Str} {bsNoHouse bmNoHouse subNoHouse bsNoTie bmNoTie subNoTie bsNoWay bmNoWay subNoWay bsLone bmLone subLone : List Value} {snNoHouse snNoTie snNoWay snLone : List Str} {abNoHouse abNoTie abNoWay abLone : Bool} {colNoHouse colNoTie colNoWay colLone : Option Bool} {p0NoHouse p1NoHouse p2NoHouse p3NoHouse p5NoHouse p0NoTie p1NoTie p2NoTie p3NoTie p5NoTie p0NoWay p1NoWay p2NoWay p3NoWay p5NoWay p0Lone p1Lone p2Lone p3Lone p5Lone : Option Value}
    (a0 : PySem.W.nsIn K mainGlobals "_law_box" = some (some (.ref f0)))
    (l0 : K.lookup f0 = some ⟨oc0, od0, .func (PySem.W.fnOf "_law_box" "_law_box" (defArgs sBox) (defBody sBox) (defScope sBox) .none kV0 dc0 pm0 an0 cd0 ct0), sl0⟩)
    (c0 : PySem.W.codeIn K cd0 "_law_box" = true)
    (k0 : PySem.W.keepIn K (.ref f0) = true)
    (a1 : PySem.W.nsIn K mainGlobals "_law_take" = some (some (.ref f1)))
    (l1 : K.lookup f1 = some ⟨oc1, od1, .func (PySem.W.fnOf "_law_take" "_law_take" (defArgs sTake) (defBody sTake) (defScope sTake) .none kV1 dc1 pm1 an1 cd1 ct1), sl1⟩)
    (c1 : PySem.W.codeIn K cd1 "_law_take" = true)
    (k1 : PySem.W.keepIn K (.ref f1) = true)
    (a2 : PySem.W.nsIn K mainGlobals "_law_pairs" = some (some (.ref f2)))
    (l2 : K.lookup f2 = some ⟨oc2, od2, .func (PySem.W.fnOf "_law_pairs" "_law_pairs" (defArgs sPairs) (defBody sPairs) (defScope sPairs) .none kV2 dc2 pm2 an2 cd2 ct2), sl2⟩)
    (c2 : PySem.W.codeIn K cd2 "_law_pairs" = true)
    (k2 : PySem.W.keepIn K (.ref f2) = true)
    (a3 : PySem.W.nsIn K mainGlobals "_law_some_ties" = some (some (.ref f3)))
    (l3 : K.lookup f3 = some ⟨oc3, od3, .func (PySem.W.fnOf "_law_some_ties" "_law_some_ties" (defArgs sSome) (defBody sSome) (defScope sSome) .none kV3 dc3 pm3 an3 cd3 ct3), sl3⟩)
    (c3 : PySem.W.codeIn K cd3 "_law_some_ties" = true)
    (k3 : PySem.W.keepIn K (.ref f3) = true)
    (a4 : PySem.W.nsIn K mainGlobals "_law_round" = some (some (.ref f4)))
    (l4 : K.lookup f4 = some ⟨oc4, od4, .func (PySem.W.fnOf "_law_round" "_law_round" (defArgs sRoundL) (defBody sRoundL) (defScope sRoundL) .none kV4 dc4 pm4 an4 cd4 ct4), sl4⟩)
    (c4 : PySem.W.codeIn K cd4 "_law_round" = true)
    (k4 : PySem.W.keepIn K (.ref f4) = true)
    (a5 : PySem.W.nsIn K mainGlobals "_law_way_good" = some (some (.ref f5)))
    (l5 : K.lookup f5 = some ⟨oc5, od5, .func (PySem.W.fnOf "_law_way_good" "_law_way_good" (defArgs sWayGood) (defBody sWayGood) (defScope sWayGood) .none kV5 dc5 pm5 an5 cd5 ct5), sl5⟩)
    (c5 : PySem.W.codeIn K cd5 "_law_way_good" = true)
    (k5 : PySem.W.keepIn K (.ref f5) = true)
    (a6 : PySem.W.nsIn K mainGlobals "check_house" = some (some (.ref f6)))
    (l6 : K.lookup f6 = some ⟨oc6, od6, .func (PySem.W.fnOf "check_house" "check_house" (defArgs sCheck) (defBody sCheck) (defScope sCheck) .none kV6 dc6 pm6 an6 cd6 ct6), sl6⟩)
    (c6 : PySem.W.codeIn K cd6 "check_house" = true)
    (k6 : PySem.W.keepIn K (.ref f6) = true)
    (a7 : PySem.W.nsIn K mainGlobals "cheapen" = some (some (.ref f7)))
    (l7 : K.lookup f7 = some ⟨oc7, od7, .func (PySem.W.fnOf "cheapen" "cheapen" (defArgs sCheap) (defBody sCheap) (defScope sCheap) .none kV7 dc7 pm7 an7 cd7 ct7), sl7⟩)
    (c7 : PySem.W.codeIn K cd7 "cheapen" = true)
    (k7 : PySem.W.keepIn K (.ref f7) = true)
    (a8 : PySem.W.nsIn K mainGlobals "far" = some (some (.ref f8)))
    (l8 : K.lookup f8 = some ⟨oc8, od8, .func (PySem.W.fnOf "far" "far" (defArgs sFar) (defBody sFar) (defScope sFar) .none kV8 dc8 pm8 an8 cd8 ct8), sl8⟩)
    (c8 : PySem.W.codeIn K cd8 "far" = true)
    (k8 : PySem.W.keepIn K (.ref f8) = true)
    (a9 : PySem.W.nsIn K mainGlobals "neighbours" = some (some (.ref f9)))
    (l9 : K.lookup f9 = some ⟨oc9, od9, .func (PySem.W.fnOf "neighbours" "neighbours" (defArgs sNbr) (defBody sNbr) (defScope sNbr) .none kV9 dc9 pm9 an9 cd9 ct9), sl9⟩)
    (c9 : PySem.W.codeIn K cd9 "neighbours" = true)
    (k9 : PySem.W.keepIn K (.ref f9) = true)
    (a10 : PySem.W.nsIn K mainGlobals "next_house" = some (some (.ref f10)))
    (l10 : K.lookup f10 = some ⟨oc10, od10, .func (PySem.W.fnOf "next_house" "next_house" (defArgs sNextH) (defBody sNextH) (defScope sNextH) .none kV10 dc10 pm10 an10 cd10 ct10), sl10⟩)
    (c10 : PySem.W.codeIn K cd10 "next_house" = true)
    (k10 : PySem.W.keepIn K (.ref f10) = true)
    (a11 : PySem.W.nsIn K mainGlobals "nexts" = some (some (.ref f11)))
    (l11 : K.lookup f11 = some ⟨oc11, od11, .func (PySem.W.fnOf "nexts" "nexts" (defArgs sNexts) (defBody sNexts) (defScope sNexts) .none kV11 dc11 pm11 an11 cd11 ct11), sl11⟩)
    (c11 : PySem.W.codeIn K cd11 "nexts" = true)
    (k11 : PySem.W.keepIn K (.ref f11) = true)
    (a12 : PySem.W.nsIn K mainGlobals "reached" = some (some (.ref f12)))
    (l12 : K.lookup f12 = some ⟨oc12, od12, .func (PySem.W.fnOf "reached" "reached" (defArgs sReach) (defBody sReach) (defScope sReach) .none kV12 dc12 pm12 an12 cd12 ct12), sl12⟩)
    (c12 : PySem.W.codeIn K cd12 "reached" = true)
    (k12 : PySem.W.keepIn K (.ref f12) = true)
    (a13 : PySem.W.nsIn K mainGlobals "least_way" = some (some (.ref f13)))
    (l13 : K.lookup f13 = some ⟨oc13, od13, .func (PySem.W.fnOf "least_way" "least_way" (defArgs sLeast) (defBody sLeast) (defScope sLeast) .none kV13 dc13 pm13 an13 cd13 ct13), sl13⟩)
    (c13 : PySem.W.codeIn K cd13 "least_way" = true)
    (k13 : PySem.W.keepIn K (.ref f13) = true)
    (a14 : PySem.W.nsIn K mainGlobals "without" = some (some (.ref f14)))
    (l14 : K.lookup f14 = some ⟨oc14, od14, .func (PySem.W.fnOf "without" "without" (defArgs sWithout) (defBody sWithout) (defScope sWithout) .none kV14 dc14 pm14 an14 cd14 ct14), sl14⟩)
    (c14 : PySem.W.codeIn K cd14 "without" = true)
    (k14 : PySem.W.keepIn K (.ref f14) = true)
    (a15 : PySem.W.nsIn K mainGlobals "round_way" = some (some (.ref f15)))
    (l15 : K.lookup f15 = some ⟨oc15, od15, .func (PySem.W.fnOf "round_way" "round_way" (defArgs sRound) (defBody sRound) (defScope sRound) .none kV15 dc15 pm15 an15 cd15 ct15), sl15⟩)
    (c15 : PySem.W.codeIn K cd15 "round_way" = true)
    (k15 : PySem.W.keepIn K (.ref f15) = true)
    (a16 : PySem.W.nsIn K mainGlobals "law" = some (some (.ref f16)))
    (l16 : K.lookup f16 = some ⟨oc16, od16, .func (PySem.W.fnOf "law" "law" (defArgs sLaw) (defBody sLaw) (defScope sLaw) .none kV16 dc16 pm16 an16 cd16 ct16), sl16⟩)
    (c16 : PySem.W.codeIn K cd16 "law" = true)
    (k16 : PySem.W.keepIn K (.ref f16) = true)
    (aS : PySem.W.nsIn K mainGlobals "SlipError" = some (some (.ref CS)))
    (rd : PySem.W.readsIn K CS (.type "type") = true)
    (rga : PySem.W.specialIn K (.ref CS) "__getattribute__" = some (some (.builtin "type.__getattribute__")))
    (atS : PySem.W.findCls K (.ref CS) (.type "type") "__init__" = some (.val (.ref fS)))
    (lS : K.lookup fS = some ⟨ocS, odS, .func (PySem.W.fnOf "__init__" "SlipError.__init__" (defArgs sSlipI) (defBody sSlipI) (defScope sSlipI) (.ref TD) kVS dcS pmS anS cdS ctS), slS⟩)
    (lT : K.lookup TD = some ⟨ocT, odT, .seq #[.str "sliperror" tk1, .str "refused" tk2] nT, slT⟩)
    (cS : PySem.W.codeIn K cdS "SlipError.__init__" = true)
    (kS : PySem.W.keepIn K (.ref fS) = true)
    (vV : PySem.W.findCls K (.type "ValueError") (.type "type") "__init__" = some (.val (.builtin "ValueError.__init__")))
    (zV : PySem.W.nsIn K mainGlobals "ValueError" = some none)
    (aNoHouse : PySem.W.nsIn K mainGlobals "NoHouse" = some (some (.ref CNoHouse)))
    (xNoHouse : K.lookup CNoHouse = some (excClassObj nmNoHouse qnNoHouse CNoHouse NNoHouse bsNoHouse bmNoHouse true snNoHouse subNoHouse abNoHouse colNoHouse ddNoHouse p0NoHouse p1NoHouse p2NoHouse p3NoHouse p5NoHouse "ValueError.__new__"))
    (rNoHouse : PySem.HandSPX.refsVE bmNoHouse = true)
    (saNoHouse : PySem.W.findIn K (.ref CNoHouse) "__setattr__" = some (some (.builtin "object.__setattr__")))
    (exNoHouse : PySem.W.subIn K (.ref CNoHouse) (.type "BaseException") = some true)
    (tyNoHouse : PySem.W.typeIn K (.ref CNoHouse) = some (.type "type"))
    (kcNoHouse : PySem.W.keepIn K (.ref CNoHouse) = true)
    (gaNoHouse : PySem.W.findIn K (.ref CNoHouse) "__getattribute__" = some (some (.builtin "BaseException.__getattribute__")))
    (ggNoHouse : PySem.W.findIn K (.ref CNoHouse) "__getattr__" = some none)
    (hdNoHouse : PySem.W.hasDictIn K CNoHouse = true)
    (iNoHouse : PySem.W.findIn K (.ref CNoHouse) "__init__" = some (some (.ref fNoHouse)))
    (tiNoHouse : PySem.W.typeIn K (.ref fNoHouse) = some (.type "function"))
    (lNoHouse : K.lookup fNoHouse = some ⟨ocNoHouse, odNoHouse, .func (PySem.W.fnOf "__init__" "NoHouse.__init__" (defArgs sNoHouseI) (defBody sNoHouseI) (defScope sNoHouseI) .none kVNoHouse dcNoHouse pmNoHouse anNoHouse cdNoHouse ctNoHouse), slNoHouse⟩)
    (cNoHouse : PySem.W.codeIn K cdNoHouse "NoHouse.__init__" = true)
    (kfNoHouse : PySem.W.keepIn K (.ref fNoHouse) = true)
    (wNoHouse : PySem.W.findIn K (.ref CNoHouse) "word" = some none)
    (flNoHousehouse : PySem.W.findIn K (.ref CNoHouse) "house" = some none)
    (icNoHouse : PySem.W.isClsIn K CNoHouse = true)
    (aNoTie : PySem.W.nsIn K mainGlobals "NoTie" = some (some (.ref CNoTie)))
    (xNoTie : K.lookup CNoTie = some (excClassObj nmNoTie qnNoTie CNoTie NNoTie bsNoTie bmNoTie true snNoTie subNoTie abNoTie colNoTie ddNoTie p0NoTie p1NoTie p2NoTie p3NoTie p5NoTie "ValueError.__new__"))
    (rNoTie : PySem.HandSPX.refsVE bmNoTie = true)
    (saNoTie : PySem.W.findIn K (.ref CNoTie) "__setattr__" = some (some (.builtin "object.__setattr__")))
    (exNoTie : PySem.W.subIn K (.ref CNoTie) (.type "BaseException") = some true)
    (tyNoTie : PySem.W.typeIn K (.ref CNoTie) = some (.type "type"))
    (kcNoTie : PySem.W.keepIn K (.ref CNoTie) = true)
    (gaNoTie : PySem.W.findIn K (.ref CNoTie) "__getattribute__" = some (some (.builtin "BaseException.__getattribute__")))
    (ggNoTie : PySem.W.findIn K (.ref CNoTie) "__getattr__" = some none)
    (hdNoTie : PySem.W.hasDictIn K CNoTie = true)
    (iNoTie : PySem.W.findIn K (.ref CNoTie) "__init__" = some (some (.ref fNoTie)))
    (tiNoTie : PySem.W.typeIn K (.ref fNoTie) = some (.type "function"))
    (lNoTie : K.lookup fNoTie = some ⟨ocNoTie, odNoTie, .func (PySem.W.fnOf "__init__" "NoTie.__init__" (defArgs sNoTieI) (defBody sNoTieI) (defScope sNoTieI) .none kVNoTie dcNoTie pmNoTie anNoTie cdNoTie ctNoTie), slNoTie⟩)
    (cNoTie : PySem.W.codeIn K cdNoTie "NoTie.__init__" = true)
    (kfNoTie : PySem.W.keepIn K (.ref fNoTie) = true)
    (wNoTie : PySem.W.findIn K (.ref CNoTie) "word" = some none)
    (flNoTieone : PySem.W.findIn K (.ref CNoTie) "one" = some none)
    (flNoTieother : PySem.W.findIn K (.ref CNoTie) "other" = some none)
    (icNoTie : PySem.W.isClsIn K CNoTie = true)
    (aNoWay : PySem.W.nsIn K mainGlobals "NoWay" = some (some (.ref CNoWay)))
    (xNoWay : K.lookup CNoWay = some (excClassObj nmNoWay qnNoWay CNoWay NNoWay bsNoWay bmNoWay true snNoWay subNoWay abNoWay colNoWay ddNoWay p0NoWay p1NoWay p2NoWay p3NoWay p5NoWay "ValueError.__new__"))
    (rNoWay : PySem.HandSPX.refsVE bmNoWay = true)
    (saNoWay : PySem.W.findIn K (.ref CNoWay) "__setattr__" = some (some (.builtin "object.__setattr__")))
    (exNoWay : PySem.W.subIn K (.ref CNoWay) (.type "BaseException") = some true)
    (tyNoWay : PySem.W.typeIn K (.ref CNoWay) = some (.type "type"))
    (kcNoWay : PySem.W.keepIn K (.ref CNoWay) = true)
    (gaNoWay : PySem.W.findIn K (.ref CNoWay) "__getattribute__" = some (some (.builtin "BaseException.__getattribute__")))
    (ggNoWay : PySem.W.findIn K (.ref CNoWay) "__getattr__" = some none)
    (hdNoWay : PySem.W.hasDictIn K CNoWay = true)
    (iNoWay : PySem.W.findIn K (.ref CNoWay) "__init__" = some (some (.ref fNoWay)))
    (tiNoWay : PySem.W.typeIn K (.ref fNoWay) = some (.type "function"))
    (lNoWay : K.lookup fNoWay = some ⟨ocNoWay, odNoWay, .func (PySem.W.fnOf "__init__" "NoWay.__init__" (defArgs sNoWayI) (defBody sNoWayI) (defScope sNoWayI) .none kVNoWay dcNoWay pmNoWay anNoWay cdNoWay ctNoWay), slNoWay⟩)
    (cNoWay : PySem.W.codeIn K cdNoWay "NoWay.__init__" = true)
    (kfNoWay : PySem.W.keepIn K (.ref fNoWay) = true)
    (wNoWay : PySem.W.findIn K (.ref CNoWay) "word" = some none)
    (flNoWaylot : PySem.W.findIn K (.ref CNoWay) "lot" = some none)
    (icNoWay : PySem.W.isClsIn K CNoWay = true)
    (aLone : PySem.W.nsIn K mainGlobals "Lone" = some (some (.ref CLone)))
    (xLone : K.lookup CLone = some (excClassObj nmLone qnLone CLone NLone bsLone bmLone true snLone subLone abLone colLone ddLone p0Lone p1Lone p2Lone p3Lone p5Lone "ValueError.__new__"))
    (rLone : PySem.HandSPX.refsVE bmLone = true)
    (saLone : PySem.W.findIn K (.ref CLone) "__setattr__" = some (some (.builtin "object.__setattr__")))
    (exLone : PySem.W.subIn K (.ref CLone) (.type "BaseException") = some true)
    (tyLone : PySem.W.typeIn K (.ref CLone) = some (.type "type"))
    (kcLone : PySem.W.keepIn K (.ref CLone) = true)
    (gaLone : PySem.W.findIn K (.ref CLone) "__getattribute__" = some (some (.builtin "BaseException.__getattribute__")))
    (ggLone : PySem.W.findIn K (.ref CLone) "__getattr__" = some none)
    (hdLone : PySem.W.hasDictIn K CLone = true)
    (iLone : PySem.W.findIn K (.ref CLone) "__init__" = some (some (.ref fLone)))
    (tiLone : PySem.W.typeIn K (.ref fLone) = some (.type "function"))
    (lLone : K.lookup fLone = some ⟨ocLone, odLone, .func (PySem.W.fnOf "__init__" "Lone.__init__" (defArgs sLoneI) (defBody sLoneI) (defScope sLoneI) .none kVLone dcLone pmLone anLone cdLone ctLone), slLone⟩)
    (cLone : PySem.W.codeIn K cdLone "Lone.__init__" = true)
    (kfLone : PySem.W.keepIn K (.ref fLone) = true)
    (wLone : PySem.W.findIn K (.ref CLone) "word" = some none)
    (flLonelot : PySem.W.findIn K (.ref CLone) "lot" = some none)
    (icLone : PySem.W.isClsIn K CLone = true)
    (suLoneLone : PySem.W.subIn K (.ref CLone) (.ref CLone) = some true)
    (suNoWayNoWay : PySem.W.subIn K (.ref CNoWay) (.ref CNoWay) = some true)
    (zset : PySem.W.nsIn K mainGlobals "set" = some none)
    (zany : PySem.W.nsIn K mainGlobals "any" = some none)
    (zlen : PySem.W.nsIn K mainGlobals "len" = some none)
    (zrange : PySem.W.nsIn K mainGlobals "range" = some none)
    (zlist : PySem.W.nsIn K mainGlobals "list" = some none)
    (ztuple : PySem.W.nsIn K mainGlobals "tuple" = some none)
    (zisinstance : PySem.W.nsIn K mainGlobals "isinstance" = some none)
    (zbool : PySem.W.nsIn K mainGlobals "bool" = some none)
    (zint : PySem.W.nsIn K mainGlobals "int" = some none)
    (zstr : PySem.W.nsIn K mainGlobals "str" = some none)
    (zall : PySem.W.nsIn K mainGlobals "all" = some none)
    (zzip : PySem.W.nsIn K mainGlobals "zip" = some none)
    (zsum : PySem.W.nsIn K mainGlobals "sum" = some none)
    (zmin : PySem.W.nsIn K mainGlobals "min" = some none)
    (zsorted : PySem.W.nsIn K mainGlobals "sorted" = some none)
    (zabs : PySem.W.nsIn K mainGlobals "abs" = some none)
    (zenumerate : PySem.W.nsIn K mainGlobals "enumerate" = some none)
    : ∃ fd : FuncData, (∀ (s : Shared) (v : Value), BindsTo s fd ⟨[v], []⟩ [("_law_script", v)]) ∧ ∀ base : Heap, K.In base → base.Ns mainGlobals mg → FnOk l.prog w K mg base CX0 15 fa fd ["_law_script"] (spLaw K) := by
  have e := hfa.symm.trans (PySem.W.mg_of X G a16)
  cases e
  have T : BT mg := ⟨PySem.W.mg_none_of X G zlen, PySem.W.mg_none_of X G zrange, PySem.W.mg_none_of X G zlist, PySem.W.mg_none_of X G ztuple, PySem.W.mg_none_of X G zisinstance, PySem.W.mg_none_of X G zbool, PySem.W.mg_none_of X G zint, PySem.W.mg_none_of X G zstr, PySem.W.mg_none_of X G zall, PySem.W.mg_none_of X G zzip, PySem.W.mg_none_of X G zsum, PySem.W.mg_none_of X G zmin, PySem.W.mg_none_of X G zsorted, PySem.W.mg_none_of X G zabs, PySem.W.mg_none_of X G zenumerate⟩
  have F_law_box := fun_mk (st := sBox) l0 c0 k0
  have g_law_box := PySem.W.mg_of X G a0
  have b_law_box := F_law_box.binds (ps := ["_law_script"]) fun _ _ _ _ _ _ us hl => match us, hl with | [_], _ => rfl
  have F_law_take := fun_mk (st := sTake) l1 c1 k1
  have g_law_take := PySem.W.mg_of X G a1
  have b_law_take := F_law_take.binds (ps := ["_law_box_here", "_law_sides"]) fun _ _ _ _ _ _ us hl => match us, hl with | [_, _], _ => rfl
  have F_law_pairs := fun_mk (st := sPairs) l2 c2 k2
  have g_law_pairs := PySem.W.mg_of X G a2
  have b_law_pairs := F_law_pairs.binds (ps := ["_law_many"]) fun _ _ _ _ _ _ us hl => match us, hl with | [_], _ => rfl
  have F_law_some_ties := fun_mk (st := sSome) l3 c3 k3
  have g_law_some_ties := PySem.W.mg_of X G a3
  have b_law_some_ties := F_law_some_ties.binds (ps := ["_law_box_here", "_law_many", "_law_odds"]) fun _ _ _ _ _ _ us hl => match us, hl with | [_, _, _], _ => rfl
  have F_law_round := fun_mk (st := sRoundL) l4 c4 k4
  have g_law_round := PySem.W.mg_of X G a4
  have b_law_round := F_law_round.binds (ps := ["_law_many", "_law_ties", "_law_one", "_law_other"]) fun _ _ _ _ _ _ us hl => match us, hl with | [_, _, _, _], _ => rfl
  have F_law_way_good := fun_mk (st := sWayGood) l5 c5 k5
  have g_law_way_good := PySem.W.mg_of X G a5
  have b_law_way_good := F_law_way_good.binds (ps := ["_law_ties", "_law_one", "_law_other", "_law_cost", "_law_way"]) fun _ _ _ _ _ _ us hl => match us, hl with | [_, _, _, _, _], _ => rfl
  have Fcheck_house := fun_mk (st := sCheck) l6 c6 k6
  have gcheck_house := PySem.W.mg_of X G a6
  have bcheck_house := Fcheck_house.binds (ps := ["many", "house"]) fun _ _ _ _ _ _ us hl => match us, hl with | [_, _], _ => rfl
  have Fcheapen := fun_mk (st := sCheap) l7 c7 k7
  have gcheapen := PySem.W.mg_of X G a7
  have bcheapen := Fcheapen.binds (ps := ["prices", "house", "near", "price"]) fun _ _ _ _ _ _ us hl => match us, hl with | [_, _, _, _], _ => rfl
  have Ffar := fun_mk (st := sFar) l8 c8 k8
  have gfar := PySem.W.mg_of X G a8
  have bfar := Ffar.binds (ps := ["many", "ties", "goal"]) fun _ _ _ _ _ _ us hl => match us, hl with | [_, _, _], _ => rfl
  have Fneighbours := fun_mk (st := sNbr) l9 c9 k9
  have gneighbours := PySem.W.mg_of X G a9
  have bneighbours := Fneighbours.binds (ps := ["ties", "house"]) fun _ _ _ _ _ _ us hl => match us, hl with | [_, _], _ => rfl
  have Fnext_house := fun_mk (st := sNextH) l10 c10 k10
  have gnext_house := PySem.W.mg_of X G a10
  have bnext_house := Fnext_house.binds (ps := ["prices", "ties", "goal", "house"]) fun _ _ _ _ _ _ us hl => match us, hl with | [_, _, _, _], _ => rfl
  have Fnexts := fun_mk (st := sNexts) l11 c11 k11
  have gnexts := PySem.W.mg_of X G a11
  have bnexts := Fnexts.binds (ps := ["many", "ties", "goal"]) fun _ _ _ _ _ _ us hl => match us, hl with | [_, _, _], _ => rfl
  have Freached := fun_mk (st := sReach) l12 c12 k12
  have greached := PySem.W.mg_of X G a12
  have breached := Freached.binds (ps := ["many", "ties", "start"]) fun _ _ _ _ _ _ us hl => match us, hl with | [_, _, _], _ => rfl
  have Fleast_way := fun_mk (st := sLeast) l13 c13 k13
  have gleast_way := PySem.W.mg_of X G a13
  have bleast_way := Fleast_way.binds (ps := ["many", "ties", "start", "goal"]) fun _ _ _ _ _ _ us hl => match us, hl with | [_, _, _, _], _ => rfl
  have Fwithout := fun_mk (st := sWithout) l14 c14 k14
  have gwithout := PySem.W.mg_of X G a14
  have bwithout := Fwithout.binds (ps := ["ties", "one", "other"]) fun _ _ _ _ _ _ us hl => match us, hl with | [_, _, _], _ => rfl
  have Fround_way := fun_mk (st := sRound) l15 c15 k15
  have ground_way := PySem.W.mg_of X G a15
  have bround_way := Fround_way.binds (ps := ["many", "ties", "one", "other"]) fun _ _ _ _ _ _ us hl => match us, hl with | [_, _, _, _], _ => rfl
  have Flaw := fun_mk (st := sLaw) l16 c16 k16
  have glaw := PySem.W.mg_of X G a16
  have blaw := Flaw.binds (ps := ["_law_script"]) fun _ _ _ _ _ _ us hl => match us, hl with | [_], _ => rfl
  have FS : FunD K "__init__" "SlipError.__init__" (defArgs sSlipI) (defBody sSlipI) (defScope sSlipI) [.str "sliperror", .str "refused"] [] fS _ := ⟨⟨_, _, _, _, _, _, _, _, _, _, rfl, lS, cS, .inr ⟨fun z => (by cases z), TD, _, [.str "sliperror" tk1, .str "refused" tk2], nT, rfl, lT, rfl, .cons ⟨_, rfl⟩ (.cons ⟨_, rfl⟩ .nil)⟩, .inl rfl⟩, kS⟩
  have bS : Binds K (PySem.W.fnOf "__init__" "SlipError.__init__" (defArgs sSlipI) (defBody sSlipI) (defScope sSlipI) (.ref TD) kVS dcS pmS anS cdS ctS) ["self", "word", "why"] [] := by
    obtain ⟨ds, hd, hb⟩ := FS.binds1 (ps := ["self", "word", "why"]) 3 2 (fun z => by cases z) rfl (fun T kV doc pm an cdv ct us its hu hi => match us, hu, its, hi with | [_, _, _], _, [_, _], _ => ⟨_, rfl, rfl⟩)
    cases hd
    exact hb
  have TS : SlipT K mg CS fS := ⟨PySem.W.mg_of X G aS, ⟨rd, rga⟩, atS, kS, vV, PySem.W.mg_none_of X G zV⟩
  have FNoHouse := fun_mk (st := sNoHouseI) lNoHouse cNoHouse kfNoHouse
  have bNoHouse := FNoHouse.binds (ps := ["self", "house"]) fun _ _ _ _ _ _ us hl => match us, hl with | [_, _], _ => rfl
  have TNoHouse : ExcT K mg "NoHouse" CNoHouse fNoHouse := ⟨PySem.W.mg_of X G aNoHouse, ⟨⟨_, _, _, _, _, _, _, _, _, _, _, _, _, _, _, xNoHouse, rNoHouse⟩, saNoHouse, exNoHouse, tyNoHouse, kcNoHouse⟩, ⟨gaNoHouse, ggNoHouse, exNoHouse, hdNoHouse⟩, iNoHouse, tiNoHouse, wNoHouse⟩
  have FNoTie := fun_mk (st := sNoTieI) lNoTie cNoTie kfNoTie
  have bNoTie := FNoTie.binds (ps := ["self", "one", "other"]) fun _ _ _ _ _ _ us hl => match us, hl with | [_, _, _], _ => rfl
  have TNoTie : ExcT K mg "NoTie" CNoTie fNoTie := ⟨PySem.W.mg_of X G aNoTie, ⟨⟨_, _, _, _, _, _, _, _, _, _, _, _, _, _, _, xNoTie, rNoTie⟩, saNoTie, exNoTie, tyNoTie, kcNoTie⟩, ⟨gaNoTie, ggNoTie, exNoTie, hdNoTie⟩, iNoTie, tiNoTie, wNoTie⟩
  have FNoWay := fun_mk (st := sNoWayI) lNoWay cNoWay kfNoWay
  have bNoWay := FNoWay.binds (ps := ["self", "lot"]) fun _ _ _ _ _ _ us hl => match us, hl with | [_, _], _ => rfl
  have TNoWay : ExcT K mg "NoWay" CNoWay fNoWay := ⟨PySem.W.mg_of X G aNoWay, ⟨⟨_, _, _, _, _, _, _, _, _, _, _, _, _, _, _, xNoWay, rNoWay⟩, saNoWay, exNoWay, tyNoWay, kcNoWay⟩, ⟨gaNoWay, ggNoWay, exNoWay, hdNoWay⟩, iNoWay, tiNoWay, wNoWay⟩
  have FLone := fun_mk (st := sLoneI) lLone cLone kfLone
  have bLone := FLone.binds (ps := ["self", "lot"]) fun _ _ _ _ _ _ us hl => match us, hl with | [_, _], _ => rfl
  have TLone : ExcT K mg "Lone" CLone fLone := ⟨PySem.W.mg_of X G aLone, ⟨⟨_, _, _, _, _, _, _, _, _, _, _, _, _, _, _, xLone, rLone⟩, saLone, exLone, tyLone, kcLone⟩, ⟨gaLone, ggLone, exLone, hdLone⟩, iLone, tiLone, wLone⟩
  have m_set := PySem.W.mg_none_of X G zset
  have m_any := PySem.W.mg_none_of X G zany
  have emLoneLone : PySem.W.exmOne K (.ref CLone) (.ref CLone) = some true := exm_pair exLone icLone tyLone suLoneLone
  have emNoWayNoWay : PySem.W.exmOne K (.ref CNoWay) (.ref CNoWay) = some true := exm_pair exNoWay icNoWay tyNoWay suNoWayNoWay
  refine ⟨PySem.W.fnOf "law" "law" (defArgs sLaw) (defBody sLaw) (defScope sLaw) .none kV16 dc16 pm16 an16 cd16 ct16, fun s v => .of_eq rfl, fun base _ _ => ?_⟩
  have GS : ∀ j, FnOk l.prog w K mg base CX0 (j + 1) fS _ ["self", "word", "why"] (spSlip K) := fun j => ok_slipI (k := j) FS TS
  have GH := ok_slipIH (P := l.prog) (w := w) (base := base) (k := 9) FS TS
  have XH : ∀ j, ExcC l.prog w K mg base (j + 2) "NoHouse" CNoHouse fNoHouse _ ["self", "house"] (spIn1 K "house" "nohouse" askInt gotSame) := fun j => ⟨TNoHouse, ok_nohouseI (k := j) FNoHouse TS (GS j) bS, bNoHouse⟩
  have XW : ExcC l.prog w K mg base 10 "NoWay" CNoWay fNoWay _ ["self", "lot"] (spIn1 K "lot" "noway" (askLot K) gotLot) := ⟨TNoWay, ok_nowayI (k := 8) FNoWay TS (GS 8) bS T.list, bNoWay⟩
  have XT : ExcC l.prog w K mg base 11 "NoTie" CNoTie fNoTie _ ["self", "one", "other"] (spIn2 K "one" "other" "notie") := ⟨TNoTie, ok_notieI (k := 9) FNoTie TS (GS 9) bS, bNoTie⟩
  have XL : ExcH l.prog w K mg base 11 "Lone" CLone fLone _ ["self", "lot"] (spIn1 K "lot" "lone" (askLot K) gotLot) := ⟨TLone, ok_loneIH (k := 9) FLone TS GH bS T.list, bLone⟩
  have cC : ∀ j, CalN l.prog w K mg base (j + 4) "check_house" _ _ ["many", "house"] (spCheckX CNoHouse) := fun j => ⟨ok_checkN (k := j) Fcheck_house (XH j) flNoHousehouse, gcheck_house, k6, bcheck_house⟩
  have cN : Cal l.prog w K mg base 11 "nexts" _ _ ["many", "ties", "goal"] spNexts := ⟨ok_nexts (k := 8) Fnexts T ⟨ok_far (k := 8) Ffar Fcheck_house Fcheapen gcheck_house gcheapen T.range bcheck_house bcheapen, gfar, k8, bfar⟩ ⟨ok_nexth (k := 8) Fnext_house T ⟨ok_nbr (k := 8) Fneighbours, gneighbours, k9, bneighbours⟩, gnext_house, k10, bnext_house⟩, gnexts, k11, bnexts⟩
  have cR : Cal l.prog w K mg base 11 "reached" _ _ ["many", "ties", "start"] spReach := ⟨ok_reach (k := 8) Freached T ⟨ok_far (k := 8) Ffar Fcheck_house Fcheapen gcheck_house gcheapen T.range bcheck_house bcheapen, gfar, k8, bfar⟩, greached, k12, breached⟩
  have cL : CalN l.prog w K mg base 12 "least_way" _ _ ["many", "ties", "start", "goal"] (spLeastX CNoHouse CNoWay) := ⟨ok_leastN (k := 6) Fleast_way T (cC 7) ⟨ok_far (k := 9) Ffar Fcheck_house Fcheapen gcheck_house gcheapen T.range bcheck_house bcheapen, gfar, k8, bfar⟩ cN cR XW flNoWaylot, gleast_way, k13, bleast_way⟩
  have cU : CalX l.prog w K mg base 13 "round_way" _ _ ["many", "ties", "one", "other"] (spRoundX CNoHouse CNoTie CLone) := ⟨ok_round (k := 6) Fround_way (cC 8).x cL ⟨ok_without (k := 11) Fwithout, gwithout, k14, bwithout⟩ XT XL TNoWay flNoTieone flNoTieother flNoWaylot flLonelot emNoWayNoWay, ground_way, k15, bround_way⟩
  exact ok_law Flaw T m_set m_any ⟨ok_box (k := 13) F_law_box T.list, g_law_box, k0, b_law_box⟩ ⟨ok_take (k := 13) F_law_take T.len, g_law_take, k1, b_law_take⟩
    ⟨ok_someD (k := 12) F_law_some_ties F_law_take g_law_take b_law_take F_law_pairs g_law_pairs b_law_pairs T.len T.sum T.range, g_law_some_ties, k3, b_law_some_ties⟩
    ⟨ok_roundL (k := 12) F_law_round cU TLone flLonelot emLoneLone, g_law_round, k4, b_law_round⟩ ⟨ok_wayGood (k := 13) F_law_way_good T m_set, g_law_way_good, k5, b_law_way_good⟩
theorem walk {l : PySem.W.OpenLaw} {q : Program} {loose : List Str} {XP : (Str → Option Value) → Heap → Prop} {YP : World → Heap → Prop} {d : DefRec} {K : Params → PySem.W.Frag} (hn : l.most = some 63) (hdf : d.params.defaults = [])
    (hY : ∀ (w : World) (h : Heap), YP w h → (K w.params).In h)
    (F : ∀ (w : World) (mg : Str → Option Value) (fa : Addr) (h : Heap), (K w.params).In h → h.Ns mainGlobals mg → mg d.name = some (.ref fa) →
      ∃ fd : FuncData, (∀ (s : Shared) (u : Value), BindsTo s fd ⟨[u], []⟩ [("_law_script", u)]) ∧ ∀ base : Heap, (K w.params).In base → base.Ns mainGlobals mg → FnOk l.prog w (K w.params) mg base CX0 15 fa fd ["_law_script"] (spLaw (K w.params))) :
    PySem.W.WalkO q loose XP YP l.row.toRowW d [] (fun f vs => PySem.call f vs) :=
  L2.walk_of (n := 63) (k := 15) (x := "_law_script") (CX := fun _ => CX0) (sp := fun w => spLaw (K w.params)) hn (by decide) hdf ⟨rfl, by decide, by decide⟩ hY F (fun _ _ a ns hl _ hS => ⟨a, ns, rfl, hS, hl, fun _ => rfl⟩) fun _ _ _ _ _ z => z
end K
open PySem PySem.W PyProof.Rows
set_option maxRecDepth 100000 in
set_option maxHeartbeats 0 in
theorem PySem.Challenge.cw_swapslip_k07_whole_round_or_lot_holds : PySem.Challenge.rw_swapslip_k07_whole_round_or_lot.Holds := by
  w_on; o_law; k_head; (case hw => w_witness2)
  k_fill
  refine K.walk (l := PySem.Challenge.rw_swapslip_k07_whole_round_or_lot) rfl rfl (fun w h Y => PySem.W.kIn_of Y) ?F
  case F =>
    intro w mg fa h KX G hmg
    refine' K.all_mk KX G hmg ?a0 ?l0 ?c0 ?k0 ?a1 ?l1 ?c1 ?k1 ?a2 ?l2 ?c2 ?k2 ?a3 ?l3 ?c3 ?k3 ?a4 ?l4 ?c4 ?k4 ?a5 ?l5 ?c5 ?k5 ?a6 ?l6 ?c6 ?k6 ?a7 ?l7 ?c7 ?k7 ?a8 ?l8 ?c8 ?k8 ?a9 ?l9 ?c9 ?k9 ?a10 ?l10 ?c10 ?k10 ?a11 ?l11 ?c11 ?k11 ?a12 ?l12 ?c12 ?k12 ?a13 ?l13 ?c13 ?k13 ?a14 ?l14 ?c14 ?k14 ?a15 ?l15 ?c15 ?k15 ?a16 ?l16 ?c16 ?k16 ?aS ?rd ?rga ?atS ?lS ?lT ?cS ?kS ?vV ?zV ?aNoHouse ?xNoHouse ?rNoHouse ?saNoHouse ?exNoHouse ?tyNoHouse ?kcNoHouse ?gaNoHouse ?ggNoHouse ?hdNoHouse ?iNoHouse ?tiNoHouse ?lNoHouse ?cNoHouse ?kfNoHouse ?wNoHouse ?flNoHousehouse ?icNoHouse ?aNoTie ?xNoTie ?rNoTie ?saNoTie ?exNoTie ?tyNoTie ?kcNoTie ?gaNoTie ?ggNoTie ?hdNoTie ?iNoTie ?tiNoTie ?lNoTie ?cNoTie ?kfNoTie ?wNoTie ?flNoTieone ?flNoTieother ?icNoTie ?aNoWay ?xNoWay ?rNoWay ?saNoWay ?exNoWay ?tyNoWay ?kcNoWay ?gaNoWay ?ggNoWay ?hdNoWay ?iNoWay ?tiNoWay ?lNoWay ?cNoWay ?kfNoWay ?wNoWay ?flNoWaylot ?icNoWay ?aLone ?xLone ?rLone ?saLone ?exLone ?tyLone ?kcLone ?gaLone ?ggLone ?hdLone ?iLone ?tiLone ?lLone ?cLone ?kfLone ?wLone ?flLonelot ?icLone ?suLoneLone ?suNoWayNoWay ?zset ?zany ?zlen ?zrange ?zlist ?ztuple ?zisinstance ?zbool ?zint ?zstr ?zall ?zzip ?zsum ?zmin ?zsorted ?zabs ?zenumerate
    (case a0 => k_is)
    (case l0 => k_is)
    (case c0 => k_is)
    (case k0 => k_is)
    (case a1 => k_is)
    (case l1 => k_is)
    (case c1 => k_is)
    (case k1 => k_is)
    (case a2 => k_is)
    (case l2 => k_is)
    (case c2 => k_is)
    (case k2 => k_is)
    (case a3 => k_is)
    (case l3 => k_is)
    (case c3 => k_is)
    (case k3 => k_is)
    (case a4 => k_is)
    (case l4 => k_is)
    (case c4 => k_is)
    (case k4 => k_is)
    (case a5 => k_is)
    (case l5 => k_is)
    (case c5 => k_is)
    (case k5 => k_is)
    (case a6 => k_is)
    (case l6 => k_is)
    (case c6 => k_is)
    (case k6 => k_is)
    (case a7 => k_is)
    (case l7 => k_is)
    (case c7 => k_is)
    (case k7 => k_is)
    (case a8 => k_is)
    (case l8 => k_is)
    (case c8 => k_is)
    (case k8 => k_is)
    (case a9 => k_is)
    (case l9 => k_is)
    (case c9 => k_is)
    (case k9 => k_is)
    (case a10 => k_is)
    (case l10 => k_is)
    (case c10 => k_is)
    (case k10 => k_is)
    (case a11 => k_is)
    (case l11 => k_is)
    (case c11 => k_is)
    (case k11 => k_is)
    (case a12 => k_is)
    (case l12 => k_is)
    (case c12 => k_is)
    (case k12 => k_is)
    (case a13 => k_is)
    (case l13 => k_is)
    (case c13 => k_is)
    (case k13 => k_is)
    (case a14 => k_is)
    (case l14 => k_is)
    (case c14 => k_is)
    (case k14 => k_is)
    (case a15 => k_is)
    (case l15 => k_is)
    (case c15 => k_is)
    (case k15 => k_is)
    (case a16 => k_is)
    (case l16 => k_is)
    (case c16 => k_is)
    (case k16 => k_is)
    (case aS => k_is)
    (case rd => k_is)
    (case rga => k_is)
    (case atS => k_is)
    (case lS => k_is)
    (case lT => k_is)
    (case cS => k_is)
    (case kS => k_is)
    (case vV => k_is)
    (case zV => k_is)
    (case aNoHouse => k_is)
    (case xNoHouse => k_is)
    (case rNoHouse => first | rfl | decide +kernel)
    (case saNoHouse => k_is)
    (case exNoHouse => k_is)
    (case tyNoHouse => k_is)
    (case kcNoHouse => k_is)
    (case gaNoHouse => k_is)
    (case ggNoHouse => k_is)
    (case hdNoHouse => k_is)
    (case iNoHouse => k_is)
    (case tiNoHouse => k_is)
    (case lNoHouse => k_is)
    (case cNoHouse => k_is)
    (case kfNoHouse => k_is)
    (case wNoHouse => k_is)
    (case flNoHousehouse => k_is)
    (case icNoHouse => k_is)
    (case aNoTie => k_is)
    (case xNoTie => k_is)
    (case rNoTie => first | rfl | decide +kernel)
    (case saNoTie => k_is)
    (case exNoTie => k_is)
    (case tyNoTie => k_is)
    (case kcNoTie => k_is)
    (case gaNoTie => k_is)
    (case ggNoTie => k_is)
    (case hdNoTie => k_is)
    (case iNoTie => k_is)
    (case tiNoTie => k_is)
    (case lNoTie => k_is)
    (case cNoTie => k_is)
    (case kfNoTie => k_is)
    (case wNoTie => k_is)
    (case flNoTieone => k_is)
    (case flNoTieother => k_is)
    (case icNoTie => k_is)
    (case aNoWay => k_is)
    (case xNoWay => k_is)
    (case rNoWay => first | rfl | decide +kernel)
    (case saNoWay => k_is)
    (case exNoWay => k_is)
    (case tyNoWay => k_is)
    (case kcNoWay => k_is)
    (case gaNoWay => k_is)
    (case ggNoWay => k_is)
    (case hdNoWay => k_is)
    (case iNoWay => k_is)
    (case tiNoWay => k_is)
    (case lNoWay => k_is)
    (case cNoWay => k_is)
    (case kfNoWay => k_is)
    (case wNoWay => k_is)
    (case flNoWaylot => k_is)
    (case icNoWay => k_is)
    (case aLone => k_is)
    (case xLone => k_is)
    (case rLone => first | rfl | decide +kernel)
    (case saLone => k_is)
    (case exLone => k_is)
    (case tyLone => k_is)
    (case kcLone => k_is)
    (case gaLone => k_is)
    (case ggLone => k_is)
    (case hdLone => k_is)
    (case iLone => k_is)
    (case tiLone => k_is)
    (case lLone => k_is)
    (case cLone => k_is)
    (case kfLone => k_is)
    (case wLone => k_is)
    (case flLonelot => k_is)
    (case icLone => k_is)
    (case suLoneLone => first | rfl | k_is)
    (case suNoWayNoWay => first | rfl | k_is)
    (case zset => k_is)
    (case zany => k_is)
    (case zlen => k_is)
    (case zrange => k_is)
    (case zlist => k_is)
    (case ztuple => k_is)
    (case zisinstance => k_is)
    (case zbool => k_is)
    (case zint => k_is)
    (case zstr => k_is)
    (case zall => k_is)
    (case zzip => k_is)
    (case zsum => k_is)
    (case zmin => k_is)
    (case zsorted => k_is)
    (case zabs => k_is)
    (case zenumerate => k_is)
