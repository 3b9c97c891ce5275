"""Deeplooks: layered attestation, who looks at whom, and which foe is never seen."""
